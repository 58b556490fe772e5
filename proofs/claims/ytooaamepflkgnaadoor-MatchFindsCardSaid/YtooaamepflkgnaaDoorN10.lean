/- Texts that a proof rests on: Sets in memory, and the contracts of homographref01 that later layers' references call. No function of the program is named here. | Patterns: what a node in memory reads as; rows of nodes of one's own. | What a pattern is asked for, by definition. | What a pattern matches, by definition. | What repetitions match, in other words. -/
import Derived.Test.YtooaamepflkgnaaDoorN07
import Derived.Test.YtooaamepflkgnaaDoorN09
import Derived.Test.YtooaamepflkgnaaDoorRows
import Derived.Test.YtooaamepflkgnaaDoorN01
import Derived.WalkKit
import Derived.WalkSpells
import Derived.WalkLawsBesides
import Derived.LoopN
import Derived.Lib.Hide
import Derived.OneCell
import Derived.StillTailTactics
import Derived.WalkSmall
import Derived.Maps.AppendAt
set_option maxRecDepth 20000
namespace Go.Proofs.YtooaamepflkgnaaDoor
open Go.RowKit

end Go.Proofs.YtooaamepflkgnaaDoor
set_option maxRecDepth 20000
namespace Go.Proofs.YtooaamepflkgnaaDoor
open Go.RowKit

/-- A pattern: its kind, its set, its numbers, its kids. -/
inductive Pat where
  | mk (op : Int) (s : BitVec 256) (lo hi : Int) (kids : List Pat)
def Pat.op : Pat → Int | .mk a _ _ _ _ => a
def Pat.set : Pat → BitVec 256 | .mk _ s _ _ _ => s
def Pat.lo : Pat → Int | .mk _ _ a _ _ => a
def Pat.hi : Pat → Int | .mk _ _ _ a _ => a
def Pat.kids : Pat → List Pat | .mk _ _ _ _ l => l
mutual
/-- How many nodes. -/
def Pat.size : Pat → Nat
  | .mk _ _ _ _ kids => 1 + Pat.sizes kids
def Pat.sizes : List Pat → Nat
  | [] => 0
  | p :: ps => p.size + Pat.sizes ps
end
mutual
/-- Block b holds the pattern from place o on: eight cells. -/
def NodeAt (w : World) : Pat → Nat → Nat → Prop
  | .mk op s lo hi kids, b, o => w.cell? ⟨b, o, none⟩ = some (.int .i64 op) ∧ (w.cell? ⟨b, o + 1, none⟩ = some (.int .u64 (wd s 0)) ∧ w.cell? ⟨b, o + 2, none⟩ = some (.int .u64 (wd s 1)) ∧ w.cell? ⟨b, o + 3, none⟩ = some (.int .u64 (wd s 2)) ∧ w.cell? ⟨b, o + 4, none⟩ = some (.int .u64 (wd s 3))) ∧
      w.cell? ⟨b, o + 5, none⟩ = some (.int .i64 lo) ∧ w.cell? ⟨b, o + 6, none⟩ = some (.int .i64 hi) ∧
      ∃ ks, w.cell? ⟨b, o + 7, none⟩ = some ks ∧ ((kids = [] ∧ ∃ a cap, ks = .slice a 0 cap) ∨ ∃ b' o' cap, ks = .slice (some ⟨b', o', none⟩) kids.length cap ∧ RowAt w kids b' o')
/-- .. and so a row of them. -/
def RowAt (w : World) : List Pat → Nat → Nat → Prop
  | [], _, _ => True
  | p :: ps, b, o => NodeAt w p b o ∧ RowAt w ps b (o + 8)
end
/-- The slice value of kids. -/
def Kids (w : World) (kids : List Pat) (ks : Value) : Prop := (kids = [] ∧ ∃ a cap, ks = .slice a 0 cap) ∨ ∃ b o cap, ks = .slice (some ⟨b, o, none⟩) kids.length cap ∧ RowAt w kids b o
theorem cell_lt {w : World} {a : Addr} {v : Value} (h : w.cell? a = some v) : a.block < w.heap.size := by
  unfold World.cell? at h
  split at h
  · rename_i e; exact (Array.getElem?_eq_some_iff.1 e).1
  · cases h
theorem cell_below {w w' : World} {a : Addr} {v : Value} (hb : Below w.heap.size w w') (h : w.cell? a = some v) : w'.cell? a = some v := (hb.cell (cell_lt h)).trans h
/-- What the one world's cells hold, the other's hold. -/
def Sub (w w' : World) : Prop := ∀ a v, w.cell? a = some v → w'.cell? a = some v
mutual
theorem NodeAt.mono {w w' : World} (hb : Sub w w') : ∀ {p : Pat} {b o : Nat}, NodeAt w p b o → NodeAt w' p b o
  | .mk _ _ _ _ kids, b, o, h => by
    unfold NodeAt at *
    obtain ⟨h0, ⟨h1, h2, h3, h4⟩, h5, h6, ks, h7, h8⟩ := h
    refine ⟨hb _ _ h0, ⟨hb _ _ h1, hb _ _ h2, hb _ _ h3, hb _ _ h4⟩, hb _ _ h5, hb _ _ h6, ks, hb _ _ h7, ?_⟩
    rcases h8 with h8 | ⟨b', o', cap, e, h9⟩
    · exact .inl h8
    · exact .inr ⟨b', o', cap, e, RowAt.mono hb h9⟩
theorem RowAt.mono {w w' : World} (hb : Sub w w') : ∀ {l : List Pat} {b o : Nat}, RowAt w l b o → RowAt w' l b o
  | [], _, _, _ => by unfold RowAt; trivial
  | p :: ps, b, o, h => by
    unfold RowAt at *
    exact ⟨NodeAt.mono hb h.1, RowAt.mono hb h.2⟩
end
theorem Sub.of_below {w w' : World} (hb : Below w.heap.size w w') : Sub w w' := fun _ _ h => cell_below hb h
theorem RowAt.below {w w' : World} (hb : Below w.heap.size w w') {l : List Pat} {b o : Nat} (h : RowAt w l b o) : RowAt w' l b o := h.mono (.of_below hb)
theorem Kids.mono {w w' : World} {l : List Pat} {ks : Value} (hb : Sub w w') (h : Kids w l ks) : Kids w' l ks := by
  rcases h with h | ⟨b, o, cap, e, h⟩
  · exact .inl h
  · exact .inr ⟨b, o, cap, e, h.mono hb⟩
theorem Kids.below {w w' : World} {l : List Pat} {ks : Value} (hb : Below w.heap.size w w') (h : Kids w l ks) : Kids w' l ks := h.mono (.of_below hb)
theorem Kids.nil (w : World) (a : Option Addr) (cap : Nat) : Kids w [] (.slice a 0 cap) := .inl ⟨rfl, a, cap, rfl⟩
/-- One of a row. -/
theorem RowAt.at {w : World} : ∀ {l : List Pat} {b o : Nat}, RowAt w l b o → ∀ i (_ : i < l.length), NodeAt w l[i] b (o + i * 8)
  | p :: ps, b, o, h, 0, _ => by unfold RowAt at h; simpa using h.1
  | p :: ps, b, o, h, i + 1, hi => by
    unfold RowAt at h
    have := RowAt.at h.2 i (by simpa using hi)
    rw [show o + (i + 1) * 8 = o + 8 + i * 8 from by omega]
    simpa using this
theorem RowAt.of {w : World} : ∀ {l : List Pat} {b o : Nat}, (∀ i (_ : i < l.length), NodeAt w l[i] b (o + i * 8)) → RowAt w l b o
  | [], _, _, _ => by unfold RowAt; trivial
  | p :: ps, b, o, h => by
    unfold RowAt
    refine ⟨h 0 (Nat.zero_lt_succ _), RowAt.of fun i hi => ?_⟩
    have := h (i + 1) (by simpa using hi)
    rw [show o + (i + 1) * 8 = o + 8 + i * 8 from by omega] at this
    simpa using this
/-- The eight cells of a node, and its kids. -/
theorem NodeAt.cells {w : World} {p : Pat} {b o : Nat} (h : NodeAt w p b o) : ∃ ks, Kids w p.kids ks ∧ w.cell? ⟨b, o, none⟩ = some (.int .i64 p.op) ∧ w.cell? ⟨b, o + 1, none⟩ = some (.int .u64 (wd p.set 0)) ∧ w.cell? ⟨b, o + 2, none⟩ = some (.int .u64 (wd p.set 1)) ∧ w.cell? ⟨b, o + 3, none⟩ = some (.int .u64 (wd p.set 2)) ∧ w.cell? ⟨b, o + 4, none⟩ = some (.int .u64 (wd p.set 3)) ∧ w.cell? ⟨b, o + 5, none⟩ = some (.int .i64 p.lo) ∧ w.cell? ⟨b, o + 6, none⟩ = some (.int .i64 p.hi) ∧ w.cell? ⟨b, o + 7, none⟩ = some ks := by
  cases p with
  | mk op s lo hi kids =>
    unfold NodeAt at h
    obtain ⟨h0, ⟨h1, h2, h3, h4⟩, h5, h6, ks, h7, h8⟩ := h
    exact ⟨ks, h8, h0, h1, h2, h3, h4, h5, h6, h7⟩
theorem NodeAt.of {w : World} {p : Pat} {b o : Nat} {ks : Value} (hk : Kids w p.kids ks) (h : ∀ j, j < 8 → w.cell? ⟨b, o + j, none⟩ = [.int .i64 p.op, .int .u64 (wd p.set 0), .int .u64 (wd p.set 1), .int .u64 (wd p.set 2), .int .u64 (wd p.set 3), .int .i64 p.lo, .int .i64 p.hi, ks][j]?) : NodeAt w p b o := by
  cases p with
  | mk op s lo hi kids =>
    unfold NodeAt
    exact ⟨h 0 (by omega), ⟨h 1 (by omega), h 2 (by omega), h 3 (by omega), h 4 (by omega)⟩, h 5 (by omega), h 6 (by omega), ks, h 7 (by omega), hk⟩
/-- .. as the walk spells a load. -/
theorem NodeAt.load {w : World} {p : Pat} {b o : Nat} (h : NodeAt w p b o) : ∃ ks, Kids w p.kids ks ∧ w.cell? ⟨b, o, none⟩ = some (.int .i64 p.op) ∧ w.cell? ⟨b, o + 1, none⟩ = some (.int .u64 (wd p.set 0)) ∧ w.cell? ⟨b, o + 1 + 1, none⟩ = some (.int .u64 (wd p.set 1)) ∧ w.cell? ⟨b, o + 1 + 1 + 1, none⟩ = some (.int .u64 (wd p.set 2)) ∧ w.cell? ⟨b, o + 1 + 1 + 1 + 1, none⟩ = some (.int .u64 (wd p.set 3)) ∧ w.cell? ⟨b, o + 1 + 1 + 1 + 1 + 1, none⟩ = some (.int .i64 p.lo) ∧ w.cell? ⟨b, o + 1 + 1 + 1 + 1 + 1 + 1, none⟩ = some (.int .i64 p.hi) ∧ w.cell? ⟨b, o + 1 + 1 + 1 + 1 + 1 + 1 + 1, none⟩ = some ks := h.cells
theorem Kids.len {w : World} {kids : List Pat} {ks : Value} (h : Kids w kids ks) : ∃ a cap, ks = .slice a kids.length cap := by
  rcases h with ⟨rfl, a, cap, rfl⟩ | ⟨b, o, cap, rfl, hr⟩
  · exact ⟨_, _, rfl⟩
  · exact ⟨_, _, rfl⟩
theorem Kids.row {w : World} {kids : List Pat} {ks : Value} (h : Kids w kids ks) (hl : 0 < kids.length) : ∃ b o cap, ks = .slice (some ⟨b, o, none⟩) kids.length cap ∧ RowAt w kids b o := by
  rcases h with ⟨rfl, a, cap, rfl⟩ | h
  · simp at hl
  · exact h
theorem below2 (w : World) (o1 o2 : Obj) : Below w.heap.size w ((w.alloc o1).alloc o2) := ((Below.refl _ _).alloc (Nat.le_refl _) _).alloc (by simp) _
theorem below3 (w : World) (o1 o2 o3 : Obj) : Below w.heap.size w (((w.alloc o1).alloc o2).alloc o3) := (below2 w o1 o2).alloc (by simp; omega) _
theorem Kids.drew {w : World} {l : List Pat} {ks : Value} (h : Kids w l ks) : Kids w.drew l ks := Kids.mono (w := w) (w' := w.drew) (fun _ _ e => e) h
theorem wd_none (i : Nat) : wd (0#256) i = 0 := wd_zero i
/-- A node laid in a new block. -/
theorem Kids.one {w : World} {p : Pat} {ks : Value} {n : Nat} (h : Kids w p.kids ks) (hn : w.heap.size = n) : Kids (w.alloc (.cells #[.int .i64 p.op, .int .u64 (wd p.set 0), .int .u64 (wd p.set 1), .int .u64 (wd p.set 2), .int .u64 (wd p.set 3), .int .i64 p.lo, .int .i64 p.hi, ks] 28)) [p] (.slice (some ⟨n, 0, none⟩) 1 1) := by
  subst hn
  refine .inr ⟨w.heap.size, 0, 1, rfl, ?_⟩
  unfold RowAt RowAt
  refine ⟨NodeAt.of (h.below ((Below.refl _ _).alloc (Nat.le_refl _) _)) fun j hj => ?_, trivial⟩
  match j, hj with
  | 0, _ | 1, _ | 2, _ | 3, _ | 4, _ | 5, _ | 6, _ | 7, _ => simp
theorem Kids.two {w : World} {p q : Pat} {ks js : Value} {n : Nat} (h : Kids w p.kids ks) (h2 : Kids w q.kids js) (hn : w.heap.size = n) : Kids (w.alloc (.cells #[.int .i64 p.op, .int .u64 (wd p.set 0), .int .u64 (wd p.set 1), .int .u64 (wd p.set 2), .int .u64 (wd p.set 3), .int .i64 p.lo, .int .i64 p.hi, ks, .int .i64 q.op, .int .u64 (wd q.set 0), .int .u64 (wd q.set 1), .int .u64 (wd q.set 2), .int .u64 (wd q.set 3), .int .i64 q.lo, .int .i64 q.hi, js] 28)) [p, q] (.slice (some ⟨n, 0, none⟩) 2 2) := by
  subst hn
  refine .inr ⟨w.heap.size, 0, 2, rfl, ?_⟩
  unfold RowAt RowAt RowAt
  refine ⟨NodeAt.of (h.below ((Below.refl _ _).alloc (Nat.le_refl _) _)) fun j hj => ?_, NodeAt.of (h2.below ((Below.refl _ _).alloc (Nat.le_refl _) _)) fun j hj => ?_, trivial⟩
  · match j, hj with
    | 0, _ | 1, _ | 2, _ | 3, _ | 4, _ | 5, _ | 6, _ | 7, _ => simp
  · match j, hj with
    | 0, _ | 1, _ | 2, _ | 3, _ | 4, _ | 5, _ | 6, _ | 7, _ => simp
theorem size_eq (p : Pat) : p.size = 1 + Pat.sizes p.kids := by cases p; simp [Pat.size, Pat.kids]
theorem sizes_at : ∀ (l : List Pat) i (_ : i < l.length), Pat.sizes (l.take (i + 1)) = Pat.sizes (l.take i) + l[i].size
  | p :: ps, 0, _ => by simp [Pat.sizes]
  | p :: ps, i + 1, hi => by
    have := sizes_at ps i (by simpa using hi)
    simp only [List.take_succ_cons, Pat.sizes, List.getElem_cons_succ] at this ⊢
    omega
theorem sizes_take (l : List Pat) (i : Nat) : Pat.sizes (l.take i) ≤ Pat.sizes l := by
  induction l generalizing i with
  | nil => simp [Pat.sizes]
  | cons p ps ih =>
    cases i with
    | zero => simp [Pat.sizes]
    | succ i => have := ih i; simp only [List.take_succ_cons, Pat.sizes]; omega
theorem size_kid (l : List Pat) i (h : i < l.length) : l[i].size ≤ Pat.sizes l := by
  have h1 := sizes_at l i h
  have h2 := sizes_take l (i + 1)
  omega
theorem length_sizes (l : List Pat) : l.length ≤ Pat.sizes l := by
  induction l with
  | nil => simp [Pat.sizes]
  | cons p ps ih => have := size_eq p; simp only [List.length_cons, Pat.sizes]; omega
theorem sizes_append (a b : List Pat) : Pat.sizes (a ++ b) = Pat.sizes a + Pat.sizes b := by
  induction a with
  | nil => simp [Pat.sizes]
  | cons p ps ih => simp only [List.cons_append, Pat.sizes, ih]; omega

/-- A world without the cells of one block, and of all blocks below lo. -/
def mask (w : World) (lo : Nat) (x : Option Nat) : World := { w with heap := w.heap.mapIdx (fun i o => if i < lo ∨ some i = x then .cells #[] 0 (0, 0) else o) }
theorem mask_cell (w : World) (lo : Nat) (x : Option Nat) (a : Addr) (v : Value) : (mask w lo x).cell? a = some v ↔ (lo ≤ a.block ∧ some a.block ≠ x) ∧ w.cell? a = some v := by
  unfold mask World.cell?
  simp only [Array.getElem?_mapIdx]
  by_cases h : a.block < lo ∨ some a.block = x
  · have h2 : ¬ (lo ≤ a.block ∧ some a.block ≠ x) := fun ⟨h3, h4⟩ => h.elim (fun h => absurd h (by omega)) (fun h => h4 h)
    rcases w.heap[a.block]? with _ | o <;> simp [h, h2]
  · have h2 : lo ≤ a.block ∧ some a.block ≠ x := ⟨by omega, fun e => h (.inr e)⟩
    rcases w.heap[a.block]? with _ | o <;> simp [h2, show ¬ a.block < lo by omega]
theorem Kids.unmask {w : World} {lo : Nat} {x : Option Nat} {l : List Pat} {ks : Value} (h : Kids (mask w lo x) l ks) : Kids w l ks := h.mono fun a v e => ((mask_cell w lo x a v).1 e).2
theorem Kids.keep {w w' : World} {lo lo' : Nat} {x x' : Option Nat} {l : List Pat} {ks : Value} (h : Kids (mask w lo x) l ks) (hk : ∀ c, lo ≤ c → some c ≠ x → c < w.heap.size → w'.heap[c]? = w.heap[c]? ∧ lo' ≤ c ∧ some c ≠ x') : Kids (mask w' lo' x') l ks := by
  refine h.mono fun a v e => ?_
  obtain ⟨⟨h1, h1'⟩, h2⟩ := (mask_cell w lo x a v).1 e
  obtain ⟨h3, h4, h5⟩ := hk a.block h1 h1' (cell_lt h2)
  exact (mask_cell w' lo' x' a v).2 ⟨⟨h4, h5⟩, (World.cell?_of_block h3).trans h2⟩
/-- What lies outside block x stays, where only block x is written, and x' is x or new. -/
theorem Kids.masked {w w' : World} {lo : Nat} {x x' : Option Nat} {l : List Pat} {ks : Value} (h : Kids (mask w lo x) l ks) (hg : w.grownBy w' x) (hx : x' = x ∨ ∀ b, x' = some b → w.heap.size ≤ b) : Kids (mask w' lo x') l ks := by
  refine h.keep fun c h1 h2 h3 => ⟨hg.block c h3 h2, h1, ?_⟩
  rcases hx with rfl | hx
  · exact h2
  · intro e2
    have := hx _ e2.symm
    omega
theorem grown_of_below {w w' : World} {x : Option Nat} (hb : Below w.heap.size w w') : w.grownBy w' x := ⟨hb.os, hb.tape, hb.output, hb.size, fun k hk _ => hb.block k hk⟩
theorem Kids.masked_below {w w' : World} {lo : Nat} {x : Option Nat} {l : List Pat} {ks : Value} (h : Kids (mask w lo x) l ks) (hb : Below w.heap.size w w') : Kids (mask w' lo x) l ks := h.masked (grown_of_below hb) (.inl rfl)
/-- Kids in new blocks. -/
def KidsN (w : World) (lo : Nat) (l : List Pat) (ks : Value) : Prop := Kids (mask w lo none) l ks
theorem KidsN.kids {w : World} {lo : Nat} {l : List Pat} {ks : Value} (h : KidsN w lo l ks) : Kids w l ks := Kids.unmask h
theorem KidsN.below {w w' : World} {lo : Nat} {l : List Pat} {ks : Value} (h : KidsN w lo l ks) (hb : Below w.heap.size w w') : KidsN w' lo l ks := Kids.masked_below h hb
theorem KidsN.mono {w : World} {lo lo' : Nat} {l : List Pat} {ks : Value} (h : KidsN w lo l ks) (hl : lo' ≤ lo) : KidsN w lo' l ks := Kids.keep h fun c h1 _ _ => ⟨rfl, by omega, by simp⟩
/-- Blocks below lo are written. -/
theorem KidsN.lower {w w' : World} {lo : Nat} {l : List Pat} {ks : Value} (h : KidsN w lo l ks) (hb : ∀ c, lo ≤ c → c < w.heap.size → w'.heap[c]? = w.heap[c]?) : KidsN w' lo l ks := Kids.keep h fun c h1 _ h3 => ⟨hb c h1 h3, h1, by simp⟩
theorem KidsN.masked {w : World} {lo lo' : Nat} {x : Option Nat} {l : List Pat} {ks : Value} (h : KidsN w lo l ks) (hl : lo' ≤ lo) (hx : ∀ b, x = some b → b < lo) : Kids (mask w lo' x) l ks :=
  Kids.keep h fun c h1 _ _ => ⟨rfl, by omega, fun e => by have := hx c e.symm; omega⟩

/-- Nodes, cell by cell. -/
def flatN (L : List (Pat × Value)) : List Value := L.flatMap (fun x => [.int .i64 x.1.op, .int .u64 (wd x.1.set 0), .int .u64 (wd x.1.set 1), .int .u64 (wd x.1.set 2), .int .u64 (wd x.1.set 3), .int .i64 x.1.lo, .int .i64 x.1.hi, x.2])
theorem flatN_nil : flatN [] = [] := rfl
theorem flatN_snoc (L : List (Pat × Value)) (p : Pat) (ks : Value) : flatN (L ++ [(p, ks)]) = flatN L ++ [.int .i64 p.op, .int .u64 (wd p.set 0), .int .u64 (wd p.set 1), .int .u64 (wd p.set 2), .int .u64 (wd p.set 3), .int .i64 p.lo, .int .i64 p.hi, ks] := by simp [flatN]
theorem flatN_length (L : List (Pat × Value)) : (flatN L).length = L.length * 8 := by
  induction L with
  | nil => rfl
  | cons q l ih => simp [flatN] at ih ⊢; omega
theorem flatN_at (L : List (Pat × Value)) : ∀ i (_ : i < L.length), ∀ j, j < 8 → (flatN L)[i * 8 + j]? = [.int .i64 (L[i].1).op, .int .u64 (wd (L[i].1).set 0), .int .u64 (wd (L[i].1).set 1), .int .u64 (wd (L[i].1).set 2), .int .u64 (wd (L[i].1).set 3), .int .i64 (L[i].1).lo, .int .i64 (L[i].1).hi, L[i].2][j]? := by
  induction L with
  | nil => intro i hi; simp at hi
  | cons q l ih =>
    intro i hi j hj
    have e : flatN (q :: l) = [.int .i64 q.1.op, .int .u64 (wd q.1.set 0), .int .u64 (wd q.1.set 1), .int .u64 (wd q.1.set 2), .int .u64 (wd q.1.set 3), .int .i64 q.1.lo, .int .i64 q.1.hi, q.2] ++ flatN l := rfl
    rw [e]
    cases i with
    | zero =>
      rw [List.getElem?_append_left (by simp; omega)]
      simp
    | succ i =>
      rw [List.getElem?_append_right (by simp; omega)]
      have := ih i (by simpa using hi) j hj
      simp only [List.length_cons, List.length_nil, List.getElem_cons_succ]
      rw [show (i + 1) * 8 + j - (0 + 1 + 1 + 1 + 1 + 1 + 1 + 1 + 1) = i * 8 + j from by omega]
      exact this
/-- A row of nodes of one's own: it reads as the patterns L, whose kids lie elsewhere. -/
def NRow (w : World) (base : Nat) (v : Value) (L : List (Pat × Value)) : Prop := w.ownsRow base 28 8 v L.length (flatN L) ∧ ∀ x ∈ L, Kids (mask w base v.ownBlock) x.1.kids x.2
theorem NRow.kidsN {w : World} {base : Nat} {v : Value} {L : List (Pat × Value)} (h : NRow w base v L) : KidsN w base (L.map Prod.fst) v := by
  obtain ⟨ho, hk⟩ := h
  rcases ho.2 with ⟨rfl, h0⟩ | ⟨g, cap, cur, rfl, hrest⟩
  · have : L = [] := List.length_eq_zero_iff.1 h0
    subst this
    exact .inl ⟨rfl, _, _, rfl⟩
  · refine .inr ⟨g, 0, cap, by simp, RowAt.of fun i hi => ?_⟩
    have hi' : i < L.length := by simpa using hi
    have e : (L.map Prod.fst)[i] = L[i].1 := by simp
    rw [e, Nat.zero_add]
    have hkk := hk _ (List.getElem_mem hi')
    refine NodeAt.of (Kids.keep (lo' := base) (x' := none) hkk fun c h1 _ _ => ⟨rfl, h1, by simp⟩) fun j hj => ?_
    have hc := (ho.cellAt (i * 8 + j) (by omega)).trans (flatN_at L i hi' j hj)
    have hsome : ∃ u, [.int .i64 (L[i].1).op, .int .u64 (wd (L[i].1).set 0), .int .u64 (wd (L[i].1).set 1), .int .u64 (wd (L[i].1).set 2), .int .u64 (wd (L[i].1).set 3), .int .i64 (L[i].1).lo, .int .i64 (L[i].1).hi, L[i].2][j]? = some u := ⟨_, List.getElem?_eq_getElem (by simp; omega)⟩
    obtain ⟨u, hu⟩ := hsome
    rw [hu] at hc ⊢
    exact (mask_cell w base none _ _).2 ⟨⟨hrest.1, by simp⟩, hc⟩
theorem NRow.kids {w : World} {base : Nat} {v : Value} {L : List (Pat × Value)} (h : NRow w base v L) : Kids w (L.map Prod.fst) v := h.kidsN.kids
theorem NRow.below {w w' : World} {base : Nat} {v : Value} {L : List (Pat × Value)} (h : NRow w base v L) (hb : Below w.heap.size w w') : NRow w' base v L :=
  ⟨h.1.kept (grown_of_below (x := none) hb) (by cases v.ownBlock <;> simp), fun x hx => (h.2 x hx).masked_below hb⟩
theorem NRow.nil (w : World) (base : Nat) : NRow w base (.slice none 0 0) [] := ⟨World.ownsRow_nil _ _ _ _, by simp⟩
theorem NRow.form {w : World} {base : Nat} {v : Value} {L : List (Pat × Value)} (h : NRow w base v L) : ∃ a cap, v = .slice a L.length cap := by
  rcases h.1.2 with ⟨rfl, h0⟩ | ⟨g, cap, cur, rfl, _⟩
  · exact ⟨_, _, by rw [h0]⟩
  · exact ⟨_, _, rfl⟩
/-- Behind an append. -/
theorem NRow.snoc {w w1 : World} {base : Nat} {v v' : Value} {L : List (Pat × Value)} (h : NRow w base v L) {p : Pat} {ks : Value}
    (hown : w1.ownsRow base 28 8 v' (L.length + 1) (flatN L ++ [.int .i64 p.op, .int .u64 (wd p.set 0), .int .u64 (wd p.set 1), .int .u64 (wd p.set 2), .int .u64 (wd p.set 3), .int .i64 p.lo, .int .i64 p.hi, ks])) (hg : w.grownBy w1 v.ownBlock) (hat : v'.ownBlock = v.ownBlock ∨ v'.ownBlock = some w.heap.size)
    (hp : Kids (mask w base v.ownBlock) p.kids ks) : NRow w1 base v' (L ++ [(p, ks)]) := by
  have hx : v'.ownBlock = v.ownBlock ∨ ∀ b, v'.ownBlock = some b → w.heap.size ≤ b := by
    rcases hat with h | h
    · exact .inl h
    · exact .inr fun b e => by rw [h] at e; cases e; exact Nat.le_refl _
  refine ⟨by rw [flatN_snoc, List.length_append]; exact hown, fun x hxm => ?_⟩
  rcases List.mem_append.1 hxm with hm | hm
  · exact (h.2 x hm).masked hg hx
  · simp at hm; subst hm; exact hp.masked hg hx
theorem cell_eight_new (w : World) (p : Pat) (ks : Value) (t : TypeId) : ∀ j u, [.int .i64 p.op, .int .u64 (wd p.set 0), .int .u64 (wd p.set 1), .int .u64 (wd p.set 2), .int .u64 (wd p.set 3), .int .i64 p.lo, .int .i64 p.hi, ks][j]? = some u → (w.alloc (.cells #[.int .i64 p.op, .int .u64 (wd p.set 0), .int .u64 (wd p.set 1), .int .u64 (wd p.set 2), .int .u64 (wd p.set 3), .int .i64 p.lo, .int .i64 p.hi, ks] t)).cell? ((⟨w.heap.size, 0, none⟩ : Addr).add j) = some u := by
  intro j u h
  match j, h with
  | 0, h | 1, h | 2, h | 3, h | 4, h | 5, h | 6, h | 7, h => simp at h; subst h; simp [Addr.add]
  | j + 8, h => simp at h
theorem infoNode : (Tryd.prog.info? 28).map (fun i => (i.zero, i.size, i.bytes)) = some (some (.agg #[.int .i64 0, .int .u64 0, .int .u64 0, .int .u64 0, .int .u64 0, .int .i64 0, .int .i64 0, .slice none 0 0]), 8, 80) := by kernel_rfl
theorem info_parts {i? : Option TypeInfo} {z : Option Value} {s b : Nat} (h : i?.map (fun i => (i.zero, i.size, i.bytes)) = some (z, s, b)) : ∃ i, i? = some i ∧ i.zero = z ∧ i.size = s ∧ i.bytes = b := by
  obtain ⟨i, h1, h2⟩ := Option.map_eq_some_iff.1 h
  simp only [Prod.mk.injEq] at h2
  exact ⟨i, h1, h2.1, h2.2.1, h2.2.2⟩
end Go.Proofs.YtooaamepflkgnaaDoor
set_option maxRecDepth 20000
namespace Go.Proofs.YtooaamepflkgnaaDoor
open Go.RowKit

mutual
/-- Does it match the empty text (the document's reference)? -/
def Pat.rnul : Pat → Bool
  | .mk op _ lo _ kids => bif op == 1 then rnulAll kids else bif op == 4 then rnulAll kids else bif op == 2 then rnulOne kids else bif op == 3 then (lo == 0 || rnulOne kids) else bif op == 5 then !rnulOne kids else false
def rnulAll : List Pat → Bool
  | [] => true
  | p :: ps => p.rnul && rnulAll ps
def rnulOne : List Pat → Bool
  | [] => false
  | p :: ps => p.rnul || rnulOne ps
end
mutual
/-- .. and as the program tells it. -/
def Pat.nul : Pat → Bool
  | .mk op _ lo _ kids => bif op == 1 then nulAll kids else bif op == 4 then nulAll kids else bif op == 2 then nulOne kids else bif op == 3 then (lo == 0 || nulAll kids) else bif op == 5 then !nulAll kids else false
def nulAll : List Pat → Bool
  | [] => true
  | p :: ps => p.nul && nulAll ps
def nulOne : List Pat → Bool
  | [] => false
  | p :: ps => p.nul || nulOne ps
end
mutual
/-- The bytes that it names. -/
def Pat.bytes : Pat → BitVec 256
  | .mk op s _ _ kids => (bif op == 0 then s else 0) ||| bytesL kids
def bytesL : List Pat → BitVec 256
  | [] => 0
  | p :: ps => p.bytes ||| bytesL ps
end
mutual
/-- Are they the same? -/
def Pat.same : Pat → Pat → Bool
  | .mk op s lo hi kids, .mk op' s' lo' hi' kids' => op == op' && (decide (s = s') && (lo == lo' && (hi == hi' && sameL kids kids')))
def sameL : List Pat → List Pat → Bool
  | [], [] => true
  | p :: ps, q :: qs => p.same q && sameL ps qs
  | _, _ => false
end
/-- May a node be, but for its kids and its depth? -/
def okN (op lo hi : Int) (n : Nat) : Bool := decide (0 ≤ op ∧ op ≤ 5 ∧ (op = 0 → n = 0) ∧ (op = 3 ∨ op = 5 → n = 1) ∧ 0 ≤ lo ∧ lo ≤ 32 ∧ hi ≤ 32 ∧ (0 ≤ hi → lo ≤ hi))
mutual
/-- May it be, where it stands so deep? -/
def Pat.fit : Pat → Nat → Bool
  | .mk op _ lo hi kids, d => decide (d ≤ 64) && (okN op lo hi kids.length && fitL kids (d + 1))
def fitL : List Pat → Nat → Bool
  | [], _ => true
  | p :: ps, d => p.fit d && fitL ps d
end
mutual
/-- Read from the ends. -/
def Pat.back : Pat → Pat
  | .mk op s lo hi kids => .mk op s lo hi (bif op == 1 then (backL kids).reverse else backL kids)
def backL : List Pat → List Pat
  | [] => []
  | p :: ps => p.back :: backL ps
end
mutual
/-- A Rep and a Not have one kid. -/
def Pat.ok : Pat → Bool
  | .mk op _ _ _ kids => ((op != 3 && op != 5) || kids.length == 1) && okL kids
def okL : List Pat → Bool
  | [] => true
  | p :: ps => p.ok && okL ps
end
theorem rnulAll_eq (l : List Pat) : rnulAll l = l.all Pat.rnul := by induction l with | nil => rfl | cons p ps ih => simp [rnulAll, ih]
theorem rnulOne_eq (l : List Pat) : rnulOne l = l.any Pat.rnul := by induction l with | nil => rfl | cons p ps ih => simp [rnulOne, ih]
theorem nulAll_eq (l : List Pat) : nulAll l = l.all Pat.nul := by induction l with | nil => rfl | cons p ps ih => simp [nulAll, ih]
theorem nulOne_eq (l : List Pat) : nulOne l = l.any Pat.nul := by induction l with | nil => rfl | cons p ps ih => simp [nulOne, ih]
theorem fitL_eq (l : List Pat) (d : Nat) : fitL l d = l.all (fun p => p.fit d) := by induction l with | nil => rfl | cons p ps ih => simp [fitL, ih]
theorem okL_eq (l : List Pat) : okL l = l.all Pat.ok := by induction l with | nil => rfl | cons p ps ih => simp [okL, ih]
theorem backL_eq (l : List Pat) : backL l = l.map Pat.back := by induction l with | nil => rfl | cons p ps ih => simp [backL, ih]
theorem rnul_eq (p : Pat) : p.rnul = (bif p.op == 1 then p.kids.all Pat.rnul else bif p.op == 4 then p.kids.all Pat.rnul else bif p.op == 2 then p.kids.any Pat.rnul else bif p.op == 3 then (p.lo == 0 || p.kids.any Pat.rnul) else bif p.op == 5 then !p.kids.any Pat.rnul else false) := by
  cases p; simp only [Pat.rnul, rnulAll_eq, rnulOne_eq, Pat.op, Pat.lo, Pat.kids] <;> rfl
theorem nul_eq (p : Pat) : p.nul = (bif p.op == 1 then p.kids.all Pat.nul else bif p.op == 4 then p.kids.all Pat.nul else bif p.op == 2 then p.kids.any Pat.nul else bif p.op == 3 then (p.lo == 0 || p.kids.all Pat.nul) else bif p.op == 5 then !p.kids.all Pat.nul else false) := by
  cases p; simp only [Pat.nul, nulAll_eq, nulOne_eq, Pat.op, Pat.lo, Pat.kids] <;> rfl
theorem bytes_eq (p : Pat) : p.bytes = (bif p.op == 0 then p.set else 0) ||| bytesL p.kids := by cases p; simp only [Pat.bytes, Pat.op, Pat.set, Pat.kids] <;> rfl
theorem same_eq (p q : Pat) : p.same q = (p.op == q.op && (decide (p.set = q.set) && (p.lo == q.lo && (p.hi == q.hi && sameL p.kids q.kids)))) := by cases p; cases q; simp only [Pat.same, Pat.op, Pat.set, Pat.lo, Pat.hi, Pat.kids] <;> rfl
theorem fit_eq (p : Pat) (d : Nat) : p.fit d = (decide (d ≤ 64) && (okN p.op p.lo p.hi p.kids.length && p.kids.all (fun q => q.fit (d + 1)))) := by cases p; simp only [Pat.fit, fitL_eq, Pat.op, Pat.lo, Pat.hi, Pat.kids] <;> rfl
theorem back_eq (p : Pat) : p.back = .mk p.op p.set p.lo p.hi (bif p.op == 1 then (p.kids.map Pat.back).reverse else p.kids.map Pat.back) := by cases p; simp only [Pat.back, backL_eq, Pat.op, Pat.set, Pat.lo, Pat.hi, Pat.kids] <;> rfl
theorem ok_eq (p : Pat) : p.ok = (((p.op != 3 && p.op != 5) || p.kids.length == 1) && p.kids.all Pat.ok) := by cases p; simp only [Pat.ok, okL_eq, Pat.op, Pat.kids] <;> rfl
theorem op_mk (a : Int) (s : BitVec 256) (lo hi : Int) (k : List Pat) : (Pat.mk a s lo hi k).op = a := rfl
theorem set_mk (a : Int) (s : BitVec 256) (lo hi : Int) (k : List Pat) : (Pat.mk a s lo hi k).set = s := rfl
theorem lo_mk (a : Int) (s : BitVec 256) (lo hi : Int) (k : List Pat) : (Pat.mk a s lo hi k).lo = lo := rfl
theorem hi_mk (a : Int) (s : BitVec 256) (lo hi : Int) (k : List Pat) : (Pat.mk a s lo hi k).hi = hi := rfl
theorem kids_mk (a : Int) (s : BitVec 256) (lo hi : Int) (k : List Pat) : (Pat.mk a s lo hi k).kids = k := rfl
theorem sameL_length : ∀ (a b : List Pat), a.length ≠ b.length → sameL a b = false
  | [], [], h => by simp at h
  | [], _ :: _, _ => rfl
  | _ :: _, [], _ => rfl
  | p :: ps, q :: qs, h => by simp [sameL, sameL_length ps qs (by simpa using h)]
theorem sameL_true : ∀ (a b : List Pat), a.length = b.length → (∀ i (ha : i < a.length) (hb : i < b.length), a[i].same b[i] = true) → sameL a b = true
  | [], [], _, _ => rfl
  | [], _ :: _, h, _ => by simp at h
  | _ :: _, [], h, _ => by simp at h
  | p :: ps, q :: qs, h, H => by
    have h0 : p.same q = true := H 0 (Nat.zero_lt_succ _) (Nat.zero_lt_succ _)
    rw [sameL, h0, Bool.true_and]
    exact sameL_true ps qs (by simpa using h) fun i ha hb => H (i + 1) (Nat.succ_lt_succ ha) (Nat.succ_lt_succ hb)
theorem sameL_false : ∀ (a b : List Pat) i (ha : i < a.length) (hb : i < b.length), a[i].same b[i] = false → sameL a b = false
  | p :: ps, q :: qs, 0, _, _, H => by rw [sameL, show p.same q = false from H, Bool.false_and]
  | p :: ps, q :: qs, i + 1, ha, hb, H => by rw [sameL, sameL_false ps qs i (Nat.lt_of_succ_lt_succ ha) (Nat.lt_of_succ_lt_succ hb) H, Bool.and_false]
/-- By size. -/
theorem Pat.by_size {P : Pat → Prop} (h : ∀ p : Pat, (∀ q, q ∈ p.kids → P q) → P p) (p : Pat) : P p := by
  suffices ∀ n (p : Pat), p.size ≤ n → P p from this _ p (Nat.le_refl _)
  intro n
  induction n with
  | zero => intro p hp; have := size_eq p; omega
  | succ n ih =>
    intro p hp
    refine h p fun q hq => ih q ?_
    obtain ⟨i, hi, rfl⟩ := List.getElem_of_mem hq
    have := size_kid p.kids i hi
    have := size_eq p
    omega
theorem same_self (p : Pat) : p.same p = true := by
  induction p using Pat.by_size with | h p ih => ?_
  rw [same_eq, sameL_true _ _ rfl fun i ha _ => ih _ (List.getElem_mem ha)]
  simp
theorem pat_eta (p : Pat) : Pat.mk p.op p.set p.lo p.hi p.kids = p := by cases p; rfl
theorem map_congr_mem {α β : Type} {f g : α → β} {l : List α} (h : ∀ x ∈ l, f x = g x) : l.map f = l.map g := List.map_congr_left h
theorem back_mk (op : Int) (s : BitVec 256) (lo hi : Int) (kids : List Pat) : (Pat.mk op s lo hi kids).back = .mk op s lo hi (bif op == 1 then (kids.map Pat.back).reverse else kids.map Pat.back) := by simp only [Pat.back, backL_eq]
theorem back_back (p : Pat) : p.back.back = p := by
  induction p using Pat.by_size with | h p ih => ?_
  cases p with
  | mk op s lo hi kids =>
    have hm : (kids.map Pat.back).map Pat.back = kids := by
      rw [List.map_map]
      conv => rhs; rw [← List.map_id kids]
      exact List.map_congr_left fun q hq => by simpa using ih q hq
    rw [back_mk, back_mk]
    cases op == 1
    · simp only [cond_false, hm]
    · simp only [cond_true, List.map_reverse, List.reverse_reverse, hm]
theorem sizes_map (l : List Pat) (f : Pat → Pat) (h : ∀ q ∈ l, (f q).size = q.size) : Pat.sizes (l.map f) = Pat.sizes l := by
  induction l with
  | nil => rfl
  | cons p ps ih => simp only [List.map_cons, Pat.sizes]; rw [h p (by simp), ih fun q hq => h q (by simp [hq])]
theorem sizes_reverse (l : List Pat) : Pat.sizes l.reverse = Pat.sizes l := by
  induction l with
  | nil => rfl
  | cons p ps ih => rw [List.reverse_cons, sizes_append, ih]; simp only [Pat.sizes]; omega
theorem back_size (p : Pat) : p.back.size = p.size := by
  induction p using Pat.by_size with | h p ih => ?_
  cases p with
  | mk op s lo hi kids =>
    rw [back_mk, size_eq, size_eq, kids_mk, kids_mk]
    rw [kids_mk] at ih
    cases op == 1
    · simp only [cond_false]; rw [sizes_map _ _ ih]
    · simp only [cond_true]; rw [sizes_reverse, sizes_map _ _ ih]
theorem bytesL_append (a b : List Pat) : bytesL (a ++ b) = bytesL a ||| bytesL b := by
  induction a with
  | nil => simp [bytesL]
  | cons p ps ih => simp [bytesL, ih, BitVec.or_assoc]
theorem bytesL_reverse (l : List Pat) : bytesL l.reverse = bytesL l := by
  induction l with
  | nil => rfl
  | cons p ps ih => rw [List.reverse_cons, bytesL_append, ih]; simp [bytesL, BitVec.or_comm]
theorem bytesL_map (l : List Pat) (f : Pat → Pat) (h : ∀ q ∈ l, (f q).bytes = q.bytes) : bytesL (l.map f) = bytesL l := by
  induction l with
  | nil => rfl
  | cons p ps ih => simp only [List.map_cons, bytesL]; rw [h p (by simp), ih fun q hq => h q (by simp [hq])]
theorem back_bytes (p : Pat) : p.back.bytes = p.bytes := by
  induction p using Pat.by_size with | h p ih => ?_
  cases p with
  | mk op s lo hi kids =>
    rw [back_mk, bytes_eq, bytes_eq, kids_mk, kids_mk, op_mk, op_mk, set_mk, set_mk]
    have := bytesL_map _ _ ih
    rw [kids_mk] at this
    cases op == 1
    · simp only [cond_false]; rw [this]
    · simp only [cond_true]; rw [bytesL_reverse, this]
theorem all_map {l : List Pat} {f : Pat → Bool} {g : Pat → Pat} (h : ∀ q ∈ l, f (g q) = f q) : (l.map g).all f = l.all f := by
  induction l with
  | nil => rfl
  | cons p ps ih => simp only [List.map_cons, List.all_cons]; rw [h p (by simp), ih fun q hq => h q (by simp [hq])]
theorem any_map' {l : List Pat} {f : Pat → Bool} {g : Pat → Pat} (h : ∀ q ∈ l, f (g q) = f q) : (l.map g).any f = l.any f := by
  induction l with
  | nil => rfl
  | cons p ps ih => simp only [List.map_cons, List.any_cons]; rw [h p (by simp), ih fun q hq => h q (by simp [hq])]
theorem back_nul (p : Pat) : p.back.nul = p.nul := by
  induction p using Pat.by_size with | h p ih => ?_
  cases p with
  | mk op s lo hi kids =>
    rw [back_mk, nul_eq, nul_eq, kids_mk, kids_mk, op_mk, op_mk, lo_mk, lo_mk]
    rw [kids_mk] at ih
    have h1 := all_map ih
    have h2 := any_map' ih
    cases op == 1
    · simp only [cond_false]; rw [h1, h2]
    · simp only [cond_true]; rw [List.all_reverse, h1]
theorem back_fit (p : Pat) : ∀ d, p.back.fit d = p.fit d := by
  induction p using Pat.by_size with | h p ih => ?_
  intro d
  cases p with
  | mk op s lo hi kids =>
    rw [back_mk, fit_eq, fit_eq, kids_mk, kids_mk, op_mk, op_mk, lo_mk, lo_mk, hi_mk, hi_mk]
    rw [kids_mk] at ih
    have h1 := all_map (f := fun q => Pat.fit q (d + 1)) (fun q hq => ih q hq (d + 1))
    cases op == 1
    · simp only [cond_false]; rw [h1, List.length_map]
    · simp only [cond_true]; rw [List.all_reverse, h1, List.length_reverse, List.length_map]
/-- Where a Rep and a Not have one kid, the program's and the reference's answers are the same. -/
theorem nul_rnul (p : Pat) : p.ok = true → p.nul = p.rnul := by
  induction p using Pat.by_size with | h p ih => ?_
  intro hok
  rw [ok_eq, Bool.and_eq_true] at hok
  obtain ⟨h1, h2⟩ := hok
  have hk : ∀ q ∈ p.kids, q.nul = q.rnul := fun q hq => ih q hq (List.all_eq_true.1 h2 q hq)
  have ha : p.kids.all Pat.nul = p.kids.all Pat.rnul := by
    rw [Bool.eq_iff_iff, List.all_eq_true, List.all_eq_true]
    exact ⟨fun H q hq => by rw [← hk q hq]; exact H q hq, fun H q hq => by rw [hk q hq]; exact H q hq⟩
  have ho : p.kids.any Pat.nul = p.kids.any Pat.rnul := by
    rw [Bool.eq_iff_iff, List.any_eq_true, List.any_eq_true]
    exact ⟨fun ⟨q, hq, H⟩ => ⟨q, hq, by rw [← hk q hq]; exact H⟩, fun ⟨q, hq, H⟩ => ⟨q, hq, by rw [hk q hq]; exact H⟩⟩
  rw [nul_eq, rnul_eq, ha, ho]
  by_cases h3 : p.op = 3
  · have : p.kids.length = 1 := by simpa [h3] using h1
    obtain ⟨q, hq⟩ := List.length_eq_one_iff.1 this
    simp [h3, hq]
  · by_cases h5 : p.op = 5
    · have : p.kids.length = 1 := by simpa [h5] using h1
      obtain ⟨q, hq⟩ := List.length_eq_one_iff.1 this
      simp [h5, hq]
    · have e3 : (p.op == 3) = false := by simpa using h3
      have e5 : (p.op == 5) = false := by simpa using h5
      simp only [e3, e5, cond_false]
end Go.Proofs.YtooaamepflkgnaaDoor
set_option maxRecDepth 20000
namespace Go.Proofs.YtooaamepflkgnaaDoor
open Go.RowKit

/-- So many steps. -/
def Pw (R : Int → Int → Prop) : Nat → Int → Int → Prop
  | 0, i, j => i = j
  | k + 1, i, j => ∃ m, R i m ∧ Pw R k m j
mutual
/-- Does a pattern match a text from one place up to another? -/
def Pat.M (s : ByteArray) : Pat → Int → Int → Prop
  | .mk op c lo hi kids, i, j =>
    (op = 0 ∧ 0 ≤ i ∧ j = i + 1 ∧ ∃ h : i.toNat < s.size, c.getLsbD s[i.toNat].toNat = true) ∨
    (op = 1 ∧ rowM s kids i j) ∨
    (op = 2 ∧ altM s kids i j) ∨
    (op = 3 ∧ ∃ k : Nat, lo ≤ k ∧ (hi < 0 ∨ (k : Int) ≤ hi) ∧ Pw (fun a b => rowM s kids a b) k i j) ∨
    (op = 4 ∧ i ≤ j ∧ j ≤ s.size ∧ allM s kids i j) ∨
    (op = 5 ∧ i ≤ j ∧ j ≤ s.size ∧ ¬ rowM s kids i j)
def rowM (s : ByteArray) : List Pat → Int → Int → Prop
  | [], i, j => i = j
  | p :: ps, i, j => ∃ m, p.M s i m ∧ rowM s ps m j
def altM (s : ByteArray) : List Pat → Int → Int → Prop
  | [], _, _ => False
  | p :: ps, i, j => p.M s i j ∨ altM s ps i j
def allM (s : ByteArray) : List Pat → Int → Int → Prop
  | [], _, _ => True
  | p :: ps, i, j => p.M s i j ∧ allM s ps i j
end
theorem M_eq (s : ByteArray) (p : Pat) (i j : Int) : p.M s i j ↔
    (p.op = 0 ∧ 0 ≤ i ∧ j = i + 1 ∧ ∃ h : i.toNat < s.size, p.set.getLsbD s[i.toNat].toNat = true) ∨
    (p.op = 1 ∧ rowM s p.kids i j) ∨
    (p.op = 2 ∧ altM s p.kids i j) ∨
    (p.op = 3 ∧ ∃ k : Nat, p.lo ≤ k ∧ (p.hi < 0 ∨ (k : Int) ≤ p.hi) ∧ Pw (rowM s p.kids) k i j) ∨
    (p.op = 4 ∧ i ≤ j ∧ j ≤ s.size ∧ allM s p.kids i j) ∨
    (p.op = 5 ∧ i ≤ j ∧ j ≤ s.size ∧ ¬ rowM s p.kids i j) := by
  cases p; rw [Pat.M]; rfl
theorem M_set {s : ByteArray} {p : Pat} (h : p.op = 0) (i j : Int) : p.M s i j ↔ (0 ≤ i ∧ j = i + 1 ∧ ∃ h : i.toNat < s.size, p.set.getLsbD s[i.toNat].toNat = true) := by
  rw [M_eq, h]; simp
theorem M_cat {s : ByteArray} {p : Pat} (h : p.op = 1) (i j : Int) : p.M s i j ↔ rowM s p.kids i j := by rw [M_eq, h]; simp
theorem M_alt {s : ByteArray} {p : Pat} (h : p.op = 2) (i j : Int) : p.M s i j ↔ altM s p.kids i j := by rw [M_eq, h]; simp
theorem M_rep {s : ByteArray} {p : Pat} (h : p.op = 3) (i j : Int) : p.M s i j ↔ ∃ k : Nat, p.lo ≤ k ∧ (p.hi < 0 ∨ (k : Int) ≤ p.hi) ∧ Pw (rowM s p.kids) k i j := by rw [M_eq, h]; simp
theorem M_and {s : ByteArray} {p : Pat} (h : p.op = 4) (i j : Int) : p.M s i j ↔ (i ≤ j ∧ j ≤ s.size ∧ allM s p.kids i j) := by rw [M_eq, h]; simp
theorem M_not {s : ByteArray} {p : Pat} (h : p.op = 5) (i j : Int) : p.M s i j ↔ (i ≤ j ∧ j ≤ s.size ∧ ¬ rowM s p.kids i j) := by rw [M_eq, h]; simp
theorem M_none {s : ByteArray} {p : Pat} (h : p.op ≠ 0 ∧ p.op ≠ 1 ∧ p.op ≠ 2 ∧ p.op ≠ 3 ∧ p.op ≠ 4 ∧ p.op ≠ 5) (i j : Int) : ¬ p.M s i j := by
  obtain ⟨h0, h1, h2, h3, h4, h5⟩ := h
  rw [M_eq]; simp [h0, h1, h2, h3, h4, h5]
theorem rowM_nil (s : ByteArray) (i j : Int) : rowM s [] i j ↔ i = j := by rw [rowM]
theorem rowM_cons (s : ByteArray) (p : Pat) (l : List Pat) (i j : Int) : rowM s (p :: l) i j ↔ ∃ m, p.M s i m ∧ rowM s l m j := by rw [rowM]
theorem rowM_one (s : ByteArray) (p : Pat) (i j : Int) : rowM s [p] i j ↔ p.M s i j := by
  rw [rowM_cons]; simp only [rowM_nil]
  exact ⟨fun ⟨m, h, e⟩ => e ▸ h, fun h => ⟨j, h, rfl⟩⟩
theorem rowM_append (s : ByteArray) (a b : List Pat) : ∀ (i j : Int), rowM s (a ++ b) i j ↔ ∃ m, rowM s a i m ∧ rowM s b m j := by
  induction a with
  | nil => intro i j; simp only [List.nil_append, rowM_nil]; exact ⟨fun h => ⟨i, rfl, h⟩, fun ⟨m, e, h⟩ => e ▸ h⟩
  | cons p l ih =>
    intro i j
    simp only [List.cons_append, rowM_cons, ih]
    exact ⟨fun ⟨m, h, n, h1, h2⟩ => ⟨n, ⟨m, h, h1⟩, h2⟩, fun ⟨n, ⟨m, h, h1⟩, h2⟩ => ⟨m, h, n, h1, h2⟩⟩
theorem altM_iff (s : ByteArray) (l : List Pat) (i j : Int) : altM s l i j ↔ ∃ p ∈ l, p.M s i j := by
  induction l with
  | nil => simp [altM]
  | cons p l ih => rw [altM, ih]; simp
theorem allM_iff (s : ByteArray) (l : List Pat) (i j : Int) : allM s l i j ↔ ∀ p ∈ l, p.M s i j := by
  induction l with
  | nil => simp [allM]
  | cons p l ih => rw [allM, ih]; simp
/-- It goes on, and not beyond the end. -/
theorem Pw_mono {R : Int → Int → Prop} {n : Int} (h : ∀ i j, R i j → 0 ≤ i → i ≤ n → i ≤ j ∧ j ≤ n) : ∀ k i j, Pw R k i j → 0 ≤ i → i ≤ n → i ≤ j ∧ j ≤ n
  | 0, i, j, e, h0, h1 => by rw [Pw] at e; omega
  | k + 1, i, j, ⟨m, h2, h3⟩, h0, h1 => by
    have a := h i m h2 h0 h1
    have b := Pw_mono h k m j h3 (by omega) a.2
    omega
theorem rowM_mono {s : ByteArray} : ∀ {l : List Pat}, (∀ p ∈ l, ∀ i j : Int, p.M s i j → 0 ≤ i → i ≤ s.size → i ≤ j ∧ j ≤ s.size) → ∀ i j : Int, rowM s l i j → 0 ≤ i → i ≤ s.size → i ≤ j ∧ j ≤ s.size
  | [], _, i, j, h, h0, h1 => by rw [rowM_nil] at h; omega
  | p :: l, H, i, j, h, h0, h1 => by
    obtain ⟨m, h2, h3⟩ := (rowM_cons _ _ _ _ _).1 h
    have a := H p (by simp) i m h2 h0 h1
    have b := rowM_mono (fun q hq => H q (by simp [hq])) m j h3 (by omega) a.2
    omega
theorem M_mono (s : ByteArray) (p : Pat) : ∀ i j : Int, p.M s i j → 0 ≤ i → i ≤ s.size → i ≤ j ∧ j ≤ s.size := by
  induction p using Pat.by_size with | h p ih => ?_
  intro i j h h0 h1
  rcases (M_eq _ _ _ _).1 h with ⟨_, h2, h3, h4, _⟩ | ⟨_, h2⟩ | ⟨_, h2⟩ | ⟨_, k, _, _, h2⟩ | ⟨_, h2, h3, _⟩ | ⟨_, h2, h3, _⟩
  · omega
  · exact rowM_mono ih i j h2 h0 h1
  · obtain ⟨q, hq, h3⟩ := (altM_iff _ _ _ _).1 h2
    exact ih q hq i j h3 h0 h1
  · exact Pw_mono (n := s.size) (fun a b => rowM_mono ih a b) k i j h2 h0 h1
  · exact ⟨h2, h3⟩
  · exact ⟨h2, h3⟩
theorem row_mono (s : ByteArray) (l : List Pat) : ∀ i j : Int, rowM s l i j → 0 ≤ i → i ≤ s.size → i ≤ j ∧ j ≤ s.size := rowM_mono fun p _ => M_mono s p
theorem Pw_same {R : Int → Int → Prop} {i : Int} (h : R i i) : ∀ k, Pw R k i i
  | 0 => rfl
  | k + 1 => ⟨i, h, Pw_same h k⟩
theorem Pw_add (R : Int → Int → Prop) : ∀ (a b : Nat) (i j : Int), Pw R (a + b) i j ↔ ∃ m, Pw R a i m ∧ Pw R b m j
  | 0, b, i, j => by rw [Nat.zero_add]; exact ⟨fun h => ⟨i, rfl, h⟩, fun ⟨m, e, h⟩ => by rw [Pw] at e; exact e ▸ h⟩
  | a + 1, b, i, j => by
    rw [Nat.add_right_comm]
    simp only [Pw, Pw_add R a b]
    exact ⟨fun ⟨m, h, n, h1, h2⟩ => ⟨n, ⟨m, h, h1⟩, h2⟩, fun ⟨n, ⟨m, h, h1⟩, h2⟩ => ⟨m, h, n, h1, h2⟩⟩
theorem Pw_one (R : Int → Int → Prop) (i j : Int) : Pw R 1 i j ↔ R i j := by
  simp only [Pw]; exact ⟨fun ⟨m, h, e⟩ => e ▸ h, fun h => ⟨j, h, rfl⟩⟩
theorem Pw_succ (R : Int → Int → Prop) (k : Nat) (i j : Int) : Pw R (k + 1) i j ↔ ∃ m, Pw R k i m ∧ R m j := by
  rw [Pw_add]; simp only [Pw_one]
/-- In a place, all pieces are empty. -/
theorem Pw_stay {R : Int → Int → Prop} {n : Int} (h : ∀ i j, R i j → 0 ≤ i → i ≤ n → i ≤ j ∧ j ≤ n) {k : Nat} {i : Int} (hk : Pw R (k + 1) i i) (h0 : 0 ≤ i) (h1 : i ≤ n) : R i i := by
  obtain ⟨m, h2, h3⟩ := hk
  have a := h i m h2 h0 h1
  have b := Pw_mono h k m i h3 (by omega) a.2
  obtain rfl : m = i := by omega
  exact h2
theorem row_stay {s : ByteArray} : ∀ {l : List Pat}, (∀ p ∈ l, ∀ i : Int, 0 ≤ i → i ≤ s.size → (p.M s i i ↔ p.nul = true)) → ∀ i : Int, 0 ≤ i → i ≤ s.size → (rowM s l i i ↔ nulAll l = true)
  | [], _, i, h0, h1 => by simp [rowM_nil, nulAll]
  | p :: l, H, i, h0, h1 => by
    rw [rowM_cons, nulAll, Bool.and_eq_true, ← H p (by simp) i h0 h1, ← row_stay (fun q hq => H q (by simp [hq])) i h0 h1]
    refine ⟨fun ⟨m, h2, h3⟩ => ?_, fun ⟨h2, h3⟩ => ⟨i, h2, h3⟩⟩
    have a := M_mono s p i m h2 h0 h1
    have b := row_mono s l m i h3 (by omega) a.2
    obtain rfl : m = i := by omega
    exact ⟨h2, h3⟩
/-- It is of one of the kinds; the numbers of a Rep are right. -/
def numN (op lo hi : Int) : Bool := decide (0 ≤ op ∧ op ≤ 5) && (op != 3 || decide (0 ≤ lo ∧ lo ≤ 1000 ∧ hi ≤ 1000 ∧ (0 ≤ hi → lo ≤ hi)))
mutual
/-- .. of all in it. -/
def Pat.num : Pat → Bool
  | .mk op _ lo hi kids => numN op lo hi && numL kids
def numL : List Pat → Bool
  | [] => true
  | p :: ps => p.num && numL ps
end
theorem numL_eq (l : List Pat) : numL l = l.all Pat.num := by induction l with | nil => rfl | cons p ps ih => simp [numL, ih]
theorem num_eq (p : Pat) : p.num = (numN p.op p.lo p.hi && p.kids.all Pat.num) := by cases p; simp only [Pat.num, numL_eq, Pat.op, Pat.lo, Pat.hi, Pat.kids]
/-- What matches the empty text. -/
theorem M_empty (s : ByteArray) (p : Pat) : p.num = true → ∀ i : Int, 0 ≤ i → i ≤ s.size → (p.M s i i ↔ p.nul = true) := by
  induction p using Pat.by_size with | h p ih => ?_
  intro hnum i h0 h1
  rw [num_eq, Bool.and_eq_true, List.all_eq_true] at hnum
  have ih' : ∀ q ∈ p.kids, ∀ i : Int, 0 ≤ i → i ≤ s.size → (q.M s i i ↔ q.nul = true) := fun q hq => ih q hq (hnum.2 q hq)
  have hrow := row_stay ih'
  rw [M_eq]
  have ho : p.nul = (bif p.op == 1 then nulAll p.kids else bif p.op == 4 then nulAll p.kids else bif p.op == 2 then nulOne p.kids else bif p.op == 3 then (p.lo == 0 || nulAll p.kids) else bif p.op == 5 then !nulAll p.kids else false) := by
    cases p; rw [Pat.nul]; rfl
  rw [ho]
  by_cases e0 : p.op = 0
  · rw [e0]; simp; omega
  by_cases e1 : p.op = 1
  · rw [e1]; simp [hrow i h0 h1]
  by_cases e2 : p.op = 2
  · rw [e2]; simp [altM_iff, nulOne_eq]
    exact ⟨fun ⟨q, hq, h⟩ => ⟨q, hq, (ih' q hq i h0 h1).1 h⟩, fun ⟨q, hq, h⟩ => ⟨q, hq, (ih' q hq i h0 h1).2 h⟩⟩
  by_cases e3 : p.op = 3
  · have hn : 0 ≤ p.lo ∧ (0 ≤ p.hi → p.lo ≤ p.hi) := by
      have := hnum.1
      simp [numN, e3] at this
      exact ⟨this.1, by omega⟩
    rw [e3]
    simp
    rw [← hrow i h0 h1]
    constructor
    · rintro ⟨k, hk, _, hp⟩
      cases k with
      | zero => left; simp at hk; omega
      | succ k => right; exact Pw_stay (fun a b => row_mono s p.kids a b) hp h0 h1
    · rintro (h | h)
      · exact ⟨0, by simp [h], by omega, rfl⟩
      · refine ⟨p.lo.toNat, by omega, by omega, Pw_same h _⟩
  by_cases e4 : p.op = 4
  · rw [e4]; simp [allM_iff, nulAll_eq]
    constructor
    · rintro ⟨_, h⟩ q hq
      exact (ih' q hq i h0 h1).1 (h q hq)
    · intro h
      exact ⟨h1, fun q hq => (ih' q hq i h0 h1).2 (h q hq)⟩
  by_cases e5 : p.op = 5
  · rw [e5]; simp [hrow i h0 h1, h1]
  · simp only [e0, e1, e2, e3, e4, e5, false_and, or_self, false_iff]
    have b1 : (p.op == 1) = false := by simpa using e1
    have b2 : (p.op == 2) = false := by simpa using e2
    have b3 : (p.op == 3) = false := by simpa using e3
    have b4 : (p.op == 4) = false := by simpa using e4
    have b5 : (p.op == 5) = false := by simpa using e5
    simp [b1, b2, b3, b4, b5]
end Go.Proofs.YtooaamepflkgnaaDoor
set_option maxRecDepth 20000
namespace Go.Proofs.YtooaamepflkgnaaDoor
open Go.RowKit

theorem row_one_fun (s : ByteArray) (p : Pat) : rowM s [p] = p.M s := by
  funext i j; exact propext (rowM_one s p i j)
theorem some_cat (s : ByteArray) (p : Pat) (i j : Int) : (Pat.mk 3 0 1 (-1) [p]).M s i j ↔ (Pat.mk 1 0 0 0 [p, Pat.mk 3 0 0 (-1) [p]]).M s i j := by
  rw [M_rep rfl, M_cat rfl]
  show (∃ k : Nat, (1 : Int) ≤ k ∧ ((-1 : Int) < 0 ∨ (k : Int) ≤ -1) ∧ Pw (rowM s [p]) k i j) ↔ rowM s [p, Pat.mk 3 0 0 (-1) [p]] i j
  rw [rowM_cons]
  simp only [rowM_one, M_rep (p := Pat.mk 3 0 0 (-1) [p]) rfl]
  show _ ↔ ∃ m, p.M s i m ∧ ∃ k : Nat, (0 : Int) ≤ k ∧ ((-1 : Int) < 0 ∨ (k : Int) ≤ -1) ∧ Pw (rowM s [p]) k m j
  rw [row_one_fun]
  constructor
  · rintro ⟨k, h1, _, h3⟩
    cases k with
    | zero => omega
    | succ k =>
      obtain ⟨m, h4, h5⟩ := h3
      exact ⟨m, h4, k, by omega, .inl (by omega), h5⟩
  · rintro ⟨m, h4, k, _, _, h5⟩
    exact ⟨k + 1, by omega, .inl (by omega), m, h4, h5⟩
theorem twice_cat (s : ByteArray) (p : Pat) (i j : Int) : (Pat.mk 3 0 2 2 [p]).M s i j ↔ (Pat.mk 1 0 0 0 [p, p]).M s i j := by
  rw [M_rep rfl, M_cat rfl]
  show (∃ k : Nat, (2 : Int) ≤ k ∧ ((2 : Int) < 0 ∨ (k : Int) ≤ 2) ∧ Pw (rowM s [p]) k i j) ↔ rowM s [p, p] i j
  rw [rowM_cons, row_one_fun]
  constructor
  · rintro ⟨k, h1, h2, h3⟩
    obtain rfl : k = 2 := by omega
    obtain ⟨m, h4, m2, h5, h6⟩ := h3
    have h7 : m2 = j := h6
    exact ⟨m, h4, h7 ▸ h5⟩
  · rintro ⟨m, h4, h5⟩
    exact ⟨2, by omega, .inr (by omega), m, h4, j, h5, rfl⟩
theorem once_may (s : ByteArray) (p : Pat) (i j : Int) : (Pat.mk 3 0 0 1 [p]).M s i j ↔ i = j ∨ p.M s i j := by
  rw [M_rep rfl]
  show (∃ k : Nat, (0 : Int) ≤ k ∧ ((1 : Int) < 0 ∨ (k : Int) ≤ 1) ∧ Pw (rowM s [p]) k i j) ↔ _
  rw [row_one_fun]
  constructor
  · rintro ⟨k, h1, h2, h3⟩
    have : k = 0 ∨ k = 1 := by omega
    rcases this with rfl | rfl
    · exact .inl h3
    · exact .inr ((Pw_one _ _ _).1 h3)
  · rintro (h | h)
    · exact ⟨0, by omega, .inr (by omega), h⟩
    · exact ⟨1, by omega, .inr (by omega), (Pw_one _ _ _).2 h⟩
theorem any_empty (s : ByteArray) (p : Pat) (i : Int) : (Pat.mk 3 0 0 (-1) [p]).M s i i := by
  rw [M_rep rfl]
  exact ⟨0, Int.le_refl _, .inl (show (-1 : Int) < 0 by decide), rfl⟩
end Go.Proofs.YtooaamepflkgnaaDoor
