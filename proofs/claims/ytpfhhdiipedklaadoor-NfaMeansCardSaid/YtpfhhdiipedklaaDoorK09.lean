/- Texts that a proof rests on: Sets in memory, and the contracts of homographref01 that later layers' references call. No function of the program is named here. | Patterns: what a node in memory reads as; rows of nodes of one's own. | What a pattern is asked for, by definition. | Machines with choices, as they are built. | Contracts of byteset that regex calls; '==' between sets. | A node in a block of its own. -/
import Derived.Test.YtpfhhdiipedklaaDoorK06
import Derived.Test.YtpfhhdiipedklaaDoorK08
import Derived.Test.YtpfhhdiipedklaaDoorRows
import Derived.Test.YtpfhhdiipedklaaDoorK01
import Derived.WalkKit
import Derived.WalkSpells
import Derived.WalkLawsBesides
import Derived.LoopN
import Derived.Lib.Hide
import Derived.OneCell
import Derived.StillTailTactics
import Derived.WalkSmall
import Derived.Maps.AppendAt
import Derived.ChangeKeysEq
set_option maxRecDepth 20000
namespace Go.Proofs.YtpfhhdiipedklaaDoor
open Go.RowKit

end Go.Proofs.YtpfhhdiipedklaaDoor
set_option maxRecDepth 20000
namespace Go.Proofs.YtpfhhdiipedklaaDoor
open Go.RowKit

/-- A pattern: its kind, its set, its numbers, its kids. -/
inductive Pat where
  | mk (op : Int) (s : BitVec 256) (lo hi : Int) (kids : List Pat)
def Pat.op : Pat → Int | .mk a _ _ _ _ => a
def Pat.set : Pat → BitVec 256 | .mk _ s _ _ _ => s
def Pat.lo : Pat → Int | .mk _ _ a _ _ => a
def Pat.hi : Pat → Int | .mk _ _ _ a _ => a
def Pat.kids : Pat → List Pat | .mk _ _ _ _ l => l
mutual
/-- How many nodes. -/
def Pat.size : Pat → Nat
  | .mk _ _ _ _ kids => 1 + Pat.sizes kids
def Pat.sizes : List Pat → Nat
  | [] => 0
  | p :: ps => p.size + Pat.sizes ps
end
mutual
/-- Block b holds the pattern from place o on: eight cells. -/
def NodeAt (w : World) : Pat → Nat → Nat → Prop
  | .mk op s lo hi kids, b, o => w.cell? ⟨b, o, none⟩ = some (.int .i64 op) ∧ (w.cell? ⟨b, o + 1, none⟩ = some (.int .u64 (wd s 0)) ∧ w.cell? ⟨b, o + 2, none⟩ = some (.int .u64 (wd s 1)) ∧ w.cell? ⟨b, o + 3, none⟩ = some (.int .u64 (wd s 2)) ∧ w.cell? ⟨b, o + 4, none⟩ = some (.int .u64 (wd s 3))) ∧
      w.cell? ⟨b, o + 5, none⟩ = some (.int .i64 lo) ∧ w.cell? ⟨b, o + 6, none⟩ = some (.int .i64 hi) ∧
      ∃ ks, w.cell? ⟨b, o + 7, none⟩ = some ks ∧ ((kids = [] ∧ ∃ a cap, ks = .slice a 0 cap) ∨ ∃ b' o' cap, ks = .slice (some ⟨b', o', none⟩) kids.length cap ∧ RowAt w kids b' o')
/-- .. and so a row of them. -/
def RowAt (w : World) : List Pat → Nat → Nat → Prop
  | [], _, _ => True
  | p :: ps, b, o => NodeAt w p b o ∧ RowAt w ps b (o + 8)
end
/-- The slice value of kids. -/
def Kids (w : World) (kids : List Pat) (ks : Value) : Prop := (kids = [] ∧ ∃ a cap, ks = .slice a 0 cap) ∨ ∃ b o cap, ks = .slice (some ⟨b, o, none⟩) kids.length cap ∧ RowAt w kids b o
theorem cell_lt {w : World} {a : Addr} {v : Value} (h : w.cell? a = some v) : a.block < w.heap.size := by
  unfold World.cell? at h
  split at h
  · rename_i e; exact (Array.getElem?_eq_some_iff.1 e).1
  · cases h
theorem cell_below {w w' : World} {a : Addr} {v : Value} (hb : Below w.heap.size w w') (h : w.cell? a = some v) : w'.cell? a = some v := (hb.cell (cell_lt h)).trans h
/-- What the one world's cells hold, the other's hold. -/
def Sub (w w' : World) : Prop := ∀ a v, w.cell? a = some v → w'.cell? a = some v
mutual
theorem NodeAt.mono {w w' : World} (hb : Sub w w') : ∀ {p : Pat} {b o : Nat}, NodeAt w p b o → NodeAt w' p b o
  | .mk _ _ _ _ kids, b, o, h => by
    unfold NodeAt at *
    obtain ⟨h0, ⟨h1, h2, h3, h4⟩, h5, h6, ks, h7, h8⟩ := h
    refine ⟨hb _ _ h0, ⟨hb _ _ h1, hb _ _ h2, hb _ _ h3, hb _ _ h4⟩, hb _ _ h5, hb _ _ h6, ks, hb _ _ h7, ?_⟩
    rcases h8 with h8 | ⟨b', o', cap, e, h9⟩
    · exact .inl h8
    · exact .inr ⟨b', o', cap, e, RowAt.mono hb h9⟩
theorem RowAt.mono {w w' : World} (hb : Sub w w') : ∀ {l : List Pat} {b o : Nat}, RowAt w l b o → RowAt w' l b o
  | [], _, _, _ => by unfold RowAt; trivial
  | p :: ps, b, o, h => by
    unfold RowAt at *
    exact ⟨NodeAt.mono hb h.1, RowAt.mono hb h.2⟩
end
theorem Sub.of_below {w w' : World} (hb : Below w.heap.size w w') : Sub w w' := fun _ _ h => cell_below hb h
theorem RowAt.below {w w' : World} (hb : Below w.heap.size w w') {l : List Pat} {b o : Nat} (h : RowAt w l b o) : RowAt w' l b o := h.mono (.of_below hb)
theorem Kids.mono {w w' : World} {l : List Pat} {ks : Value} (hb : Sub w w') (h : Kids w l ks) : Kids w' l ks := by
  rcases h with h | ⟨b, o, cap, e, h⟩
  · exact .inl h
  · exact .inr ⟨b, o, cap, e, h.mono hb⟩
theorem Kids.below {w w' : World} {l : List Pat} {ks : Value} (hb : Below w.heap.size w w') (h : Kids w l ks) : Kids w' l ks := h.mono (.of_below hb)
theorem Kids.nil (w : World) (a : Option Addr) (cap : Nat) : Kids w [] (.slice a 0 cap) := .inl ⟨rfl, a, cap, rfl⟩
/-- One of a row. -/
theorem RowAt.at {w : World} : ∀ {l : List Pat} {b o : Nat}, RowAt w l b o → ∀ i (_ : i < l.length), NodeAt w l[i] b (o + i * 8)
  | p :: ps, b, o, h, 0, _ => by unfold RowAt at h; simpa using h.1
  | p :: ps, b, o, h, i + 1, hi => by
    unfold RowAt at h
    have := RowAt.at h.2 i (by simpa using hi)
    rw [show o + (i + 1) * 8 = o + 8 + i * 8 from by omega]
    simpa using this
theorem RowAt.of {w : World} : ∀ {l : List Pat} {b o : Nat}, (∀ i (_ : i < l.length), NodeAt w l[i] b (o + i * 8)) → RowAt w l b o
  | [], _, _, _ => by unfold RowAt; trivial
  | p :: ps, b, o, h => by
    unfold RowAt
    refine ⟨h 0 (Nat.zero_lt_succ _), RowAt.of fun i hi => ?_⟩
    have := h (i + 1) (by simpa using hi)
    rw [show o + (i + 1) * 8 = o + 8 + i * 8 from by omega] at this
    simpa using this
/-- The eight cells of a node, and its kids. -/
theorem NodeAt.cells {w : World} {p : Pat} {b o : Nat} (h : NodeAt w p b o) : ∃ ks, Kids w p.kids ks ∧ w.cell? ⟨b, o, none⟩ = some (.int .i64 p.op) ∧ w.cell? ⟨b, o + 1, none⟩ = some (.int .u64 (wd p.set 0)) ∧ w.cell? ⟨b, o + 2, none⟩ = some (.int .u64 (wd p.set 1)) ∧ w.cell? ⟨b, o + 3, none⟩ = some (.int .u64 (wd p.set 2)) ∧ w.cell? ⟨b, o + 4, none⟩ = some (.int .u64 (wd p.set 3)) ∧ w.cell? ⟨b, o + 5, none⟩ = some (.int .i64 p.lo) ∧ w.cell? ⟨b, o + 6, none⟩ = some (.int .i64 p.hi) ∧ w.cell? ⟨b, o + 7, none⟩ = some ks := by
  cases p with
  | mk op s lo hi kids =>
    unfold NodeAt at h
    obtain ⟨h0, ⟨h1, h2, h3, h4⟩, h5, h6, ks, h7, h8⟩ := h
    exact ⟨ks, h8, h0, h1, h2, h3, h4, h5, h6, h7⟩
theorem NodeAt.of {w : World} {p : Pat} {b o : Nat} {ks : Value} (hk : Kids w p.kids ks) (h : ∀ j, j < 8 → w.cell? ⟨b, o + j, none⟩ = [.int .i64 p.op, .int .u64 (wd p.set 0), .int .u64 (wd p.set 1), .int .u64 (wd p.set 2), .int .u64 (wd p.set 3), .int .i64 p.lo, .int .i64 p.hi, ks][j]?) : NodeAt w p b o := by
  cases p with
  | mk op s lo hi kids =>
    unfold NodeAt
    exact ⟨h 0 (by omega), ⟨h 1 (by omega), h 2 (by omega), h 3 (by omega), h 4 (by omega)⟩, h 5 (by omega), h 6 (by omega), ks, h 7 (by omega), hk⟩
/-- .. as the walk spells a load. -/
theorem NodeAt.load {w : World} {p : Pat} {b o : Nat} (h : NodeAt w p b o) : ∃ ks, Kids w p.kids ks ∧ w.cell? ⟨b, o, none⟩ = some (.int .i64 p.op) ∧ w.cell? ⟨b, o + 1, none⟩ = some (.int .u64 (wd p.set 0)) ∧ w.cell? ⟨b, o + 1 + 1, none⟩ = some (.int .u64 (wd p.set 1)) ∧ w.cell? ⟨b, o + 1 + 1 + 1, none⟩ = some (.int .u64 (wd p.set 2)) ∧ w.cell? ⟨b, o + 1 + 1 + 1 + 1, none⟩ = some (.int .u64 (wd p.set 3)) ∧ w.cell? ⟨b, o + 1 + 1 + 1 + 1 + 1, none⟩ = some (.int .i64 p.lo) ∧ w.cell? ⟨b, o + 1 + 1 + 1 + 1 + 1 + 1, none⟩ = some (.int .i64 p.hi) ∧ w.cell? ⟨b, o + 1 + 1 + 1 + 1 + 1 + 1 + 1, none⟩ = some ks := h.cells
theorem Kids.len {w : World} {kids : List Pat} {ks : Value} (h : Kids w kids ks) : ∃ a cap, ks = .slice a kids.length cap := by
  rcases h with ⟨rfl, a, cap, rfl⟩ | ⟨b, o, cap, rfl, hr⟩
  · exact ⟨_, _, rfl⟩
  · exact ⟨_, _, rfl⟩
theorem Kids.row {w : World} {kids : List Pat} {ks : Value} (h : Kids w kids ks) (hl : 0 < kids.length) : ∃ b o cap, ks = .slice (some ⟨b, o, none⟩) kids.length cap ∧ RowAt w kids b o := by
  rcases h with ⟨rfl, a, cap, rfl⟩ | h
  · simp at hl
  · exact h
theorem below2 (w : World) (o1 o2 : Obj) : Below w.heap.size w ((w.alloc o1).alloc o2) := ((Below.refl _ _).alloc (Nat.le_refl _) _).alloc (by simp) _
theorem below3 (w : World) (o1 o2 o3 : Obj) : Below w.heap.size w (((w.alloc o1).alloc o2).alloc o3) := (below2 w o1 o2).alloc (by simp; omega) _
theorem Kids.drew {w : World} {l : List Pat} {ks : Value} (h : Kids w l ks) : Kids w.drew l ks := Kids.mono (w := w) (w' := w.drew) (fun _ _ e => e) h
theorem wd_none (i : Nat) : wd (0#256) i = 0 := wd_zero i
/-- A node laid in a new block. -/
theorem Kids.one {w : World} {p : Pat} {ks : Value} {n : Nat} (h : Kids w p.kids ks) (hn : w.heap.size = n) : Kids (w.alloc (.cells #[.int .i64 p.op, .int .u64 (wd p.set 0), .int .u64 (wd p.set 1), .int .u64 (wd p.set 2), .int .u64 (wd p.set 3), .int .i64 p.lo, .int .i64 p.hi, ks] 36)) [p] (.slice (some ⟨n, 0, none⟩) 1 1) := by
  subst hn
  refine .inr ⟨w.heap.size, 0, 1, rfl, ?_⟩
  unfold RowAt RowAt
  refine ⟨NodeAt.of (h.below ((Below.refl _ _).alloc (Nat.le_refl _) _)) fun j hj => ?_, trivial⟩
  match j, hj with
  | 0, _ | 1, _ | 2, _ | 3, _ | 4, _ | 5, _ | 6, _ | 7, _ => simp
theorem Kids.two {w : World} {p q : Pat} {ks js : Value} {n : Nat} (h : Kids w p.kids ks) (h2 : Kids w q.kids js) (hn : w.heap.size = n) : Kids (w.alloc (.cells #[.int .i64 p.op, .int .u64 (wd p.set 0), .int .u64 (wd p.set 1), .int .u64 (wd p.set 2), .int .u64 (wd p.set 3), .int .i64 p.lo, .int .i64 p.hi, ks, .int .i64 q.op, .int .u64 (wd q.set 0), .int .u64 (wd q.set 1), .int .u64 (wd q.set 2), .int .u64 (wd q.set 3), .int .i64 q.lo, .int .i64 q.hi, js] 36)) [p, q] (.slice (some ⟨n, 0, none⟩) 2 2) := by
  subst hn
  refine .inr ⟨w.heap.size, 0, 2, rfl, ?_⟩
  unfold RowAt RowAt RowAt
  refine ⟨NodeAt.of (h.below ((Below.refl _ _).alloc (Nat.le_refl _) _)) fun j hj => ?_, NodeAt.of (h2.below ((Below.refl _ _).alloc (Nat.le_refl _) _)) fun j hj => ?_, trivial⟩
  · match j, hj with
    | 0, _ | 1, _ | 2, _ | 3, _ | 4, _ | 5, _ | 6, _ | 7, _ => simp
  · match j, hj with
    | 0, _ | 1, _ | 2, _ | 3, _ | 4, _ | 5, _ | 6, _ | 7, _ => simp
theorem size_eq (p : Pat) : p.size = 1 + Pat.sizes p.kids := by cases p; simp [Pat.size, Pat.kids]
theorem sizes_at : ∀ (l : List Pat) i (_ : i < l.length), Pat.sizes (l.take (i + 1)) = Pat.sizes (l.take i) + l[i].size
  | p :: ps, 0, _ => by simp [Pat.sizes]
  | p :: ps, i + 1, hi => by
    have := sizes_at ps i (by simpa using hi)
    simp only [List.take_succ_cons, Pat.sizes, List.getElem_cons_succ] at this ⊢
    omega
theorem sizes_take (l : List Pat) (i : Nat) : Pat.sizes (l.take i) ≤ Pat.sizes l := by
  induction l generalizing i with
  | nil => simp [Pat.sizes]
  | cons p ps ih =>
    cases i with
    | zero => simp [Pat.sizes]
    | succ i => have := ih i; simp only [List.take_succ_cons, Pat.sizes]; omega
theorem size_kid (l : List Pat) i (h : i < l.length) : l[i].size ≤ Pat.sizes l := by
  have h1 := sizes_at l i h
  have h2 := sizes_take l (i + 1)
  omega
theorem length_sizes (l : List Pat) : l.length ≤ Pat.sizes l := by
  induction l with
  | nil => simp [Pat.sizes]
  | cons p ps ih => have := size_eq p; simp only [List.length_cons, Pat.sizes]; omega
theorem sizes_append (a b : List Pat) : Pat.sizes (a ++ b) = Pat.sizes a + Pat.sizes b := by
  induction a with
  | nil => simp [Pat.sizes]
  | cons p ps ih => simp only [List.cons_append, Pat.sizes, ih]; omega

/-- A world without the cells of one block, and of all blocks below lo. -/
def mask (w : World) (lo : Nat) (x : Option Nat) : World := { w with heap := w.heap.mapIdx (fun i o => if i < lo ∨ some i = x then .cells #[] 0 (0, 0) else o) }
theorem mask_cell (w : World) (lo : Nat) (x : Option Nat) (a : Addr) (v : Value) : (mask w lo x).cell? a = some v ↔ (lo ≤ a.block ∧ some a.block ≠ x) ∧ w.cell? a = some v := by
  unfold mask World.cell?
  simp only [Array.getElem?_mapIdx]
  by_cases h : a.block < lo ∨ some a.block = x
  · have h2 : ¬ (lo ≤ a.block ∧ some a.block ≠ x) := fun ⟨h3, h4⟩ => h.elim (fun h => absurd h (by omega)) (fun h => h4 h)
    rcases w.heap[a.block]? with _ | o <;> simp [h, h2]
  · have h2 : lo ≤ a.block ∧ some a.block ≠ x := ⟨by omega, fun e => h (.inr e)⟩
    rcases w.heap[a.block]? with _ | o <;> simp [h2, show ¬ a.block < lo by omega]
theorem Kids.unmask {w : World} {lo : Nat} {x : Option Nat} {l : List Pat} {ks : Value} (h : Kids (mask w lo x) l ks) : Kids w l ks := h.mono fun a v e => ((mask_cell w lo x a v).1 e).2
theorem Kids.keep {w w' : World} {lo lo' : Nat} {x x' : Option Nat} {l : List Pat} {ks : Value} (h : Kids (mask w lo x) l ks) (hk : ∀ c, lo ≤ c → some c ≠ x → c < w.heap.size → w'.heap[c]? = w.heap[c]? ∧ lo' ≤ c ∧ some c ≠ x') : Kids (mask w' lo' x') l ks := by
  refine h.mono fun a v e => ?_
  obtain ⟨⟨h1, h1'⟩, h2⟩ := (mask_cell w lo x a v).1 e
  obtain ⟨h3, h4, h5⟩ := hk a.block h1 h1' (cell_lt h2)
  exact (mask_cell w' lo' x' a v).2 ⟨⟨h4, h5⟩, (World.cell?_of_block h3).trans h2⟩
/-- What lies outside block x stays, where only block x is written, and x' is x or new. -/
theorem Kids.masked {w w' : World} {lo : Nat} {x x' : Option Nat} {l : List Pat} {ks : Value} (h : Kids (mask w lo x) l ks) (hg : w.grownBy w' x) (hx : x' = x ∨ ∀ b, x' = some b → w.heap.size ≤ b) : Kids (mask w' lo x') l ks := by
  refine h.keep fun c h1 h2 h3 => ⟨hg.block c h3 h2, h1, ?_⟩
  rcases hx with rfl | hx
  · exact h2
  · intro e2
    have := hx _ e2.symm
    omega
theorem grown_of_below {w w' : World} {x : Option Nat} (hb : Below w.heap.size w w') : w.grownBy w' x := ⟨hb.os, hb.tape, hb.output, hb.size, fun k hk _ => hb.block k hk⟩
theorem Kids.masked_below {w w' : World} {lo : Nat} {x : Option Nat} {l : List Pat} {ks : Value} (h : Kids (mask w lo x) l ks) (hb : Below w.heap.size w w') : Kids (mask w' lo x) l ks := h.masked (grown_of_below hb) (.inl rfl)
/-- Kids in new blocks. -/
def KidsN (w : World) (lo : Nat) (l : List Pat) (ks : Value) : Prop := Kids (mask w lo none) l ks
theorem KidsN.kids {w : World} {lo : Nat} {l : List Pat} {ks : Value} (h : KidsN w lo l ks) : Kids w l ks := Kids.unmask h
theorem KidsN.below {w w' : World} {lo : Nat} {l : List Pat} {ks : Value} (h : KidsN w lo l ks) (hb : Below w.heap.size w w') : KidsN w' lo l ks := Kids.masked_below h hb
theorem KidsN.mono {w : World} {lo lo' : Nat} {l : List Pat} {ks : Value} (h : KidsN w lo l ks) (hl : lo' ≤ lo) : KidsN w lo' l ks := Kids.keep h fun c h1 _ _ => ⟨rfl, by omega, by simp⟩
/-- Blocks below lo are written. -/
theorem KidsN.lower {w w' : World} {lo : Nat} {l : List Pat} {ks : Value} (h : KidsN w lo l ks) (hb : ∀ c, lo ≤ c → c < w.heap.size → w'.heap[c]? = w.heap[c]?) : KidsN w' lo l ks := Kids.keep h fun c h1 _ h3 => ⟨hb c h1 h3, h1, by simp⟩
theorem KidsN.masked {w : World} {lo lo' : Nat} {x : Option Nat} {l : List Pat} {ks : Value} (h : KidsN w lo l ks) (hl : lo' ≤ lo) (hx : ∀ b, x = some b → b < lo) : Kids (mask w lo' x) l ks :=
  Kids.keep h fun c h1 _ _ => ⟨rfl, by omega, fun e => by have := hx c e.symm; omega⟩

/-- Nodes, cell by cell. -/
def flatN (L : List (Pat × Value)) : List Value := L.flatMap (fun x => [.int .i64 x.1.op, .int .u64 (wd x.1.set 0), .int .u64 (wd x.1.set 1), .int .u64 (wd x.1.set 2), .int .u64 (wd x.1.set 3), .int .i64 x.1.lo, .int .i64 x.1.hi, x.2])
theorem flatN_nil : flatN [] = [] := rfl
theorem flatN_snoc (L : List (Pat × Value)) (p : Pat) (ks : Value) : flatN (L ++ [(p, ks)]) = flatN L ++ [.int .i64 p.op, .int .u64 (wd p.set 0), .int .u64 (wd p.set 1), .int .u64 (wd p.set 2), .int .u64 (wd p.set 3), .int .i64 p.lo, .int .i64 p.hi, ks] := by simp [flatN]
theorem flatN_length (L : List (Pat × Value)) : (flatN L).length = L.length * 8 := by
  induction L with
  | nil => rfl
  | cons q l ih => simp [flatN] at ih ⊢; omega
theorem flatN_at (L : List (Pat × Value)) : ∀ i (_ : i < L.length), ∀ j, j < 8 → (flatN L)[i * 8 + j]? = [.int .i64 (L[i].1).op, .int .u64 (wd (L[i].1).set 0), .int .u64 (wd (L[i].1).set 1), .int .u64 (wd (L[i].1).set 2), .int .u64 (wd (L[i].1).set 3), .int .i64 (L[i].1).lo, .int .i64 (L[i].1).hi, L[i].2][j]? := by
  induction L with
  | nil => intro i hi; simp at hi
  | cons q l ih =>
    intro i hi j hj
    have e : flatN (q :: l) = [.int .i64 q.1.op, .int .u64 (wd q.1.set 0), .int .u64 (wd q.1.set 1), .int .u64 (wd q.1.set 2), .int .u64 (wd q.1.set 3), .int .i64 q.1.lo, .int .i64 q.1.hi, q.2] ++ flatN l := rfl
    rw [e]
    cases i with
    | zero =>
      rw [List.getElem?_append_left (by simp; omega)]
      simp
    | succ i =>
      rw [List.getElem?_append_right (by simp; omega)]
      have := ih i (by simpa using hi) j hj
      simp only [List.length_cons, List.length_nil, List.getElem_cons_succ]
      rw [show (i + 1) * 8 + j - (0 + 1 + 1 + 1 + 1 + 1 + 1 + 1 + 1) = i * 8 + j from by omega]
      exact this
/-- A row of nodes of one's own: it reads as the patterns L, whose kids lie elsewhere. -/
def NRow (w : World) (base : Nat) (v : Value) (L : List (Pat × Value)) : Prop := w.ownsRow base 36 8 v L.length (flatN L) ∧ ∀ x ∈ L, Kids (mask w base v.ownBlock) x.1.kids x.2
theorem NRow.kidsN {w : World} {base : Nat} {v : Value} {L : List (Pat × Value)} (h : NRow w base v L) : KidsN w base (L.map Prod.fst) v := by
  obtain ⟨ho, hk⟩ := h
  rcases ho.2 with ⟨rfl, h0⟩ | ⟨g, cap, cur, rfl, hrest⟩
  · have : L = [] := List.length_eq_zero_iff.1 h0
    subst this
    exact .inl ⟨rfl, _, _, rfl⟩
  · refine .inr ⟨g, 0, cap, by simp, RowAt.of fun i hi => ?_⟩
    have hi' : i < L.length := by simpa using hi
    have e : (L.map Prod.fst)[i] = L[i].1 := by simp
    rw [e, Nat.zero_add]
    have hkk := hk _ (List.getElem_mem hi')
    refine NodeAt.of (Kids.keep (lo' := base) (x' := none) hkk fun c h1 _ _ => ⟨rfl, h1, by simp⟩) fun j hj => ?_
    have hc := (ho.cellAt (i * 8 + j) (by omega)).trans (flatN_at L i hi' j hj)
    have hsome : ∃ u, [.int .i64 (L[i].1).op, .int .u64 (wd (L[i].1).set 0), .int .u64 (wd (L[i].1).set 1), .int .u64 (wd (L[i].1).set 2), .int .u64 (wd (L[i].1).set 3), .int .i64 (L[i].1).lo, .int .i64 (L[i].1).hi, L[i].2][j]? = some u := ⟨_, List.getElem?_eq_getElem (by simp; omega)⟩
    obtain ⟨u, hu⟩ := hsome
    rw [hu] at hc ⊢
    exact (mask_cell w base none _ _).2 ⟨⟨hrest.1, by simp⟩, hc⟩
theorem NRow.kids {w : World} {base : Nat} {v : Value} {L : List (Pat × Value)} (h : NRow w base v L) : Kids w (L.map Prod.fst) v := h.kidsN.kids
theorem NRow.below {w w' : World} {base : Nat} {v : Value} {L : List (Pat × Value)} (h : NRow w base v L) (hb : Below w.heap.size w w') : NRow w' base v L :=
  ⟨h.1.kept (grown_of_below (x := none) hb) (by cases v.ownBlock <;> simp), fun x hx => (h.2 x hx).masked_below hb⟩
theorem NRow.nil (w : World) (base : Nat) : NRow w base (.slice none 0 0) [] := ⟨World.ownsRow_nil _ _ _ _, by simp⟩
theorem NRow.form {w : World} {base : Nat} {v : Value} {L : List (Pat × Value)} (h : NRow w base v L) : ∃ a cap, v = .slice a L.length cap := by
  rcases h.1.2 with ⟨rfl, h0⟩ | ⟨g, cap, cur, rfl, _⟩
  · exact ⟨_, _, by rw [h0]⟩
  · exact ⟨_, _, rfl⟩
/-- Behind an append. -/
theorem NRow.snoc {w w1 : World} {base : Nat} {v v' : Value} {L : List (Pat × Value)} (h : NRow w base v L) {p : Pat} {ks : Value}
    (hown : w1.ownsRow base 36 8 v' (L.length + 1) (flatN L ++ [.int .i64 p.op, .int .u64 (wd p.set 0), .int .u64 (wd p.set 1), .int .u64 (wd p.set 2), .int .u64 (wd p.set 3), .int .i64 p.lo, .int .i64 p.hi, ks])) (hg : w.grownBy w1 v.ownBlock) (hat : v'.ownBlock = v.ownBlock ∨ v'.ownBlock = some w.heap.size)
    (hp : Kids (mask w base v.ownBlock) p.kids ks) : NRow w1 base v' (L ++ [(p, ks)]) := by
  have hx : v'.ownBlock = v.ownBlock ∨ ∀ b, v'.ownBlock = some b → w.heap.size ≤ b := by
    rcases hat with h | h
    · exact .inl h
    · exact .inr fun b e => by rw [h] at e; cases e; exact Nat.le_refl _
  refine ⟨by rw [flatN_snoc, List.length_append]; exact hown, fun x hxm => ?_⟩
  rcases List.mem_append.1 hxm with hm | hm
  · exact (h.2 x hm).masked hg hx
  · simp at hm; subst hm; exact hp.masked hg hx
theorem cell_eight_new (w : World) (p : Pat) (ks : Value) (t : TypeId) : ∀ j u, [.int .i64 p.op, .int .u64 (wd p.set 0), .int .u64 (wd p.set 1), .int .u64 (wd p.set 2), .int .u64 (wd p.set 3), .int .i64 p.lo, .int .i64 p.hi, ks][j]? = some u → (w.alloc (.cells #[.int .i64 p.op, .int .u64 (wd p.set 0), .int .u64 (wd p.set 1), .int .u64 (wd p.set 2), .int .u64 (wd p.set 3), .int .i64 p.lo, .int .i64 p.hi, ks] t)).cell? ((⟨w.heap.size, 0, none⟩ : Addr).add j) = some u := by
  intro j u h
  match j, h with
  | 0, h | 1, h | 2, h | 3, h | 4, h | 5, h | 6, h | 7, h => simp at h; subst h; simp [Addr.add]
  | j + 8, h => simp at h
theorem infoNode : (Tryd.prog.info? 36).map (fun i => (i.zero, i.size, i.bytes)) = some (some (.agg #[.int .i64 0, .int .u64 0, .int .u64 0, .int .u64 0, .int .u64 0, .int .i64 0, .int .i64 0, .slice none 0 0]), 8, 80) := by kernel_rfl
theorem info_parts {i? : Option TypeInfo} {z : Option Value} {s b : Nat} (h : i?.map (fun i => (i.zero, i.size, i.bytes)) = some (z, s, b)) : ∃ i, i? = some i ∧ i.zero = z ∧ i.size = s ∧ i.bytes = b := by
  obtain ⟨i, h1, h2⟩ := Option.map_eq_some_iff.1 h
  simp only [Prod.mk.injEq] at h2
  exact ⟨i, h1, h2.1, h2.2.1, h2.2.2⟩
end Go.Proofs.YtpfhhdiipedklaaDoor
set_option maxRecDepth 20000
namespace Go.Proofs.YtpfhhdiipedklaaDoor
open Go.RowKit

mutual
/-- Does it match the empty text (the document's reference)? -/
def Pat.rnul : Pat → Bool
  | .mk op _ lo _ kids => bif op == 1 then rnulAll kids else bif op == 4 then rnulAll kids else bif op == 2 then rnulOne kids else bif op == 3 then (lo == 0 || rnulOne kids) else bif op == 5 then !rnulOne kids else false
def rnulAll : List Pat → Bool
  | [] => true
  | p :: ps => p.rnul && rnulAll ps
def rnulOne : List Pat → Bool
  | [] => false
  | p :: ps => p.rnul || rnulOne ps
end
mutual
/-- .. and as the program tells it. -/
def Pat.nul : Pat → Bool
  | .mk op _ lo _ kids => bif op == 1 then nulAll kids else bif op == 4 then nulAll kids else bif op == 2 then nulOne kids else bif op == 3 then (lo == 0 || nulAll kids) else bif op == 5 then !nulAll kids else false
def nulAll : List Pat → Bool
  | [] => true
  | p :: ps => p.nul && nulAll ps
def nulOne : List Pat → Bool
  | [] => false
  | p :: ps => p.nul || nulOne ps
end
mutual
/-- The bytes that it names. -/
def Pat.bytes : Pat → BitVec 256
  | .mk op s _ _ kids => (bif op == 0 then s else 0) ||| bytesL kids
def bytesL : List Pat → BitVec 256
  | [] => 0
  | p :: ps => p.bytes ||| bytesL ps
end
mutual
/-- Are they the same? -/
def Pat.same : Pat → Pat → Bool
  | .mk op s lo hi kids, .mk op' s' lo' hi' kids' => op == op' && (decide (s = s') && (lo == lo' && (hi == hi' && sameL kids kids')))
def sameL : List Pat → List Pat → Bool
  | [], [] => true
  | p :: ps, q :: qs => p.same q && sameL ps qs
  | _, _ => false
end
/-- May a node be, but for its kids and its depth? -/
def okN (op lo hi : Int) (n : Nat) : Bool := decide (0 ≤ op ∧ op ≤ 5 ∧ (op = 0 → n = 0) ∧ (op = 3 ∨ op = 5 → n = 1) ∧ 0 ≤ lo ∧ lo ≤ 32 ∧ hi ≤ 32 ∧ (0 ≤ hi → lo ≤ hi))
mutual
/-- May it be, where it stands so deep? -/
def Pat.fit : Pat → Nat → Bool
  | .mk op _ lo hi kids, d => decide (d ≤ 64) && (okN op lo hi kids.length && fitL kids (d + 1))
def fitL : List Pat → Nat → Bool
  | [], _ => true
  | p :: ps, d => p.fit d && fitL ps d
end
mutual
/-- Read from the ends. -/
def Pat.back : Pat → Pat
  | .mk op s lo hi kids => .mk op s lo hi (bif op == 1 then (backL kids).reverse else backL kids)
def backL : List Pat → List Pat
  | [] => []
  | p :: ps => p.back :: backL ps
end
mutual
/-- A Rep and a Not have one kid. -/
def Pat.ok : Pat → Bool
  | .mk op _ _ _ kids => ((op != 3 && op != 5) || kids.length == 1) && okL kids
def okL : List Pat → Bool
  | [] => true
  | p :: ps => p.ok && okL ps
end
theorem rnulAll_eq (l : List Pat) : rnulAll l = l.all Pat.rnul := by induction l with | nil => rfl | cons p ps ih => simp [rnulAll, ih]
theorem rnulOne_eq (l : List Pat) : rnulOne l = l.any Pat.rnul := by induction l with | nil => rfl | cons p ps ih => simp [rnulOne, ih]
theorem nulAll_eq (l : List Pat) : nulAll l = l.all Pat.nul := by induction l with | nil => rfl | cons p ps ih => simp [nulAll, ih]
theorem nulOne_eq (l : List Pat) : nulOne l = l.any Pat.nul := by induction l with | nil => rfl | cons p ps ih => simp [nulOne, ih]
theorem fitL_eq (l : List Pat) (d : Nat) : fitL l d = l.all (fun p => p.fit d) := by induction l with | nil => rfl | cons p ps ih => simp [fitL, ih]
theorem okL_eq (l : List Pat) : okL l = l.all Pat.ok := by induction l with | nil => rfl | cons p ps ih => simp [okL, ih]
theorem backL_eq (l : List Pat) : backL l = l.map Pat.back := by induction l with | nil => rfl | cons p ps ih => simp [backL, ih]
theorem rnul_eq (p : Pat) : p.rnul = (bif p.op == 1 then p.kids.all Pat.rnul else bif p.op == 4 then p.kids.all Pat.rnul else bif p.op == 2 then p.kids.any Pat.rnul else bif p.op == 3 then (p.lo == 0 || p.kids.any Pat.rnul) else bif p.op == 5 then !p.kids.any Pat.rnul else false) := by
  cases p; simp only [Pat.rnul, rnulAll_eq, rnulOne_eq, Pat.op, Pat.lo, Pat.kids] <;> rfl
theorem nul_eq (p : Pat) : p.nul = (bif p.op == 1 then p.kids.all Pat.nul else bif p.op == 4 then p.kids.all Pat.nul else bif p.op == 2 then p.kids.any Pat.nul else bif p.op == 3 then (p.lo == 0 || p.kids.all Pat.nul) else bif p.op == 5 then !p.kids.all Pat.nul else false) := by
  cases p; simp only [Pat.nul, nulAll_eq, nulOne_eq, Pat.op, Pat.lo, Pat.kids] <;> rfl
theorem bytes_eq (p : Pat) : p.bytes = (bif p.op == 0 then p.set else 0) ||| bytesL p.kids := by cases p; simp only [Pat.bytes, Pat.op, Pat.set, Pat.kids] <;> rfl
theorem same_eq (p q : Pat) : p.same q = (p.op == q.op && (decide (p.set = q.set) && (p.lo == q.lo && (p.hi == q.hi && sameL p.kids q.kids)))) := by cases p; cases q; simp only [Pat.same, Pat.op, Pat.set, Pat.lo, Pat.hi, Pat.kids] <;> rfl
theorem fit_eq (p : Pat) (d : Nat) : p.fit d = (decide (d ≤ 64) && (okN p.op p.lo p.hi p.kids.length && p.kids.all (fun q => q.fit (d + 1)))) := by cases p; simp only [Pat.fit, fitL_eq, Pat.op, Pat.lo, Pat.hi, Pat.kids] <;> rfl
theorem back_eq (p : Pat) : p.back = .mk p.op p.set p.lo p.hi (bif p.op == 1 then (p.kids.map Pat.back).reverse else p.kids.map Pat.back) := by cases p; simp only [Pat.back, backL_eq, Pat.op, Pat.set, Pat.lo, Pat.hi, Pat.kids] <;> rfl
theorem ok_eq (p : Pat) : p.ok = (((p.op != 3 && p.op != 5) || p.kids.length == 1) && p.kids.all Pat.ok) := by cases p; simp only [Pat.ok, okL_eq, Pat.op, Pat.kids] <;> rfl
theorem op_mk (a : Int) (s : BitVec 256) (lo hi : Int) (k : List Pat) : (Pat.mk a s lo hi k).op = a := rfl
theorem set_mk (a : Int) (s : BitVec 256) (lo hi : Int) (k : List Pat) : (Pat.mk a s lo hi k).set = s := rfl
theorem lo_mk (a : Int) (s : BitVec 256) (lo hi : Int) (k : List Pat) : (Pat.mk a s lo hi k).lo = lo := rfl
theorem hi_mk (a : Int) (s : BitVec 256) (lo hi : Int) (k : List Pat) : (Pat.mk a s lo hi k).hi = hi := rfl
theorem kids_mk (a : Int) (s : BitVec 256) (lo hi : Int) (k : List Pat) : (Pat.mk a s lo hi k).kids = k := rfl
theorem sameL_length : ∀ (a b : List Pat), a.length ≠ b.length → sameL a b = false
  | [], [], h => by simp at h
  | [], _ :: _, _ => rfl
  | _ :: _, [], _ => rfl
  | p :: ps, q :: qs, h => by simp [sameL, sameL_length ps qs (by simpa using h)]
theorem sameL_true : ∀ (a b : List Pat), a.length = b.length → (∀ i (ha : i < a.length) (hb : i < b.length), a[i].same b[i] = true) → sameL a b = true
  | [], [], _, _ => rfl
  | [], _ :: _, h, _ => by simp at h
  | _ :: _, [], h, _ => by simp at h
  | p :: ps, q :: qs, h, H => by
    have h0 : p.same q = true := H 0 (Nat.zero_lt_succ _) (Nat.zero_lt_succ _)
    rw [sameL, h0, Bool.true_and]
    exact sameL_true ps qs (by simpa using h) fun i ha hb => H (i + 1) (Nat.succ_lt_succ ha) (Nat.succ_lt_succ hb)
theorem sameL_false : ∀ (a b : List Pat) i (ha : i < a.length) (hb : i < b.length), a[i].same b[i] = false → sameL a b = false
  | p :: ps, q :: qs, 0, _, _, H => by rw [sameL, show p.same q = false from H, Bool.false_and]
  | p :: ps, q :: qs, i + 1, ha, hb, H => by rw [sameL, sameL_false ps qs i (Nat.lt_of_succ_lt_succ ha) (Nat.lt_of_succ_lt_succ hb) H, Bool.and_false]
/-- By size. -/
theorem Pat.by_size {P : Pat → Prop} (h : ∀ p : Pat, (∀ q, q ∈ p.kids → P q) → P p) (p : Pat) : P p := by
  suffices ∀ n (p : Pat), p.size ≤ n → P p from this _ p (Nat.le_refl _)
  intro n
  induction n with
  | zero => intro p hp; have := size_eq p; omega
  | succ n ih =>
    intro p hp
    refine h p fun q hq => ih q ?_
    obtain ⟨i, hi, rfl⟩ := List.getElem_of_mem hq
    have := size_kid p.kids i hi
    have := size_eq p
    omega
theorem same_self (p : Pat) : p.same p = true := by
  induction p using Pat.by_size with | h p ih => ?_
  rw [same_eq, sameL_true _ _ rfl fun i ha _ => ih _ (List.getElem_mem ha)]
  simp
theorem pat_eta (p : Pat) : Pat.mk p.op p.set p.lo p.hi p.kids = p := by cases p; rfl
theorem map_congr_mem {α β : Type} {f g : α → β} {l : List α} (h : ∀ x ∈ l, f x = g x) : l.map f = l.map g := List.map_congr_left h
theorem back_mk (op : Int) (s : BitVec 256) (lo hi : Int) (kids : List Pat) : (Pat.mk op s lo hi kids).back = .mk op s lo hi (bif op == 1 then (kids.map Pat.back).reverse else kids.map Pat.back) := by simp only [Pat.back, backL_eq]
theorem back_back (p : Pat) : p.back.back = p := by
  induction p using Pat.by_size with | h p ih => ?_
  cases p with
  | mk op s lo hi kids =>
    have hm : (kids.map Pat.back).map Pat.back = kids := by
      rw [List.map_map]
      conv => rhs; rw [← List.map_id kids]
      exact List.map_congr_left fun q hq => by simpa using ih q hq
    rw [back_mk, back_mk]
    cases op == 1
    · simp only [cond_false, hm]
    · simp only [cond_true, List.map_reverse, List.reverse_reverse, hm]
theorem sizes_map (l : List Pat) (f : Pat → Pat) (h : ∀ q ∈ l, (f q).size = q.size) : Pat.sizes (l.map f) = Pat.sizes l := by
  induction l with
  | nil => rfl
  | cons p ps ih => simp only [List.map_cons, Pat.sizes]; rw [h p (by simp), ih fun q hq => h q (by simp [hq])]
theorem sizes_reverse (l : List Pat) : Pat.sizes l.reverse = Pat.sizes l := by
  induction l with
  | nil => rfl
  | cons p ps ih => rw [List.reverse_cons, sizes_append, ih]; simp only [Pat.sizes]; omega
theorem back_size (p : Pat) : p.back.size = p.size := by
  induction p using Pat.by_size with | h p ih => ?_
  cases p with
  | mk op s lo hi kids =>
    rw [back_mk, size_eq, size_eq, kids_mk, kids_mk]
    rw [kids_mk] at ih
    cases op == 1
    · simp only [cond_false]; rw [sizes_map _ _ ih]
    · simp only [cond_true]; rw [sizes_reverse, sizes_map _ _ ih]
theorem bytesL_append (a b : List Pat) : bytesL (a ++ b) = bytesL a ||| bytesL b := by
  induction a with
  | nil => simp [bytesL]
  | cons p ps ih => simp [bytesL, ih, BitVec.or_assoc]
theorem bytesL_reverse (l : List Pat) : bytesL l.reverse = bytesL l := by
  induction l with
  | nil => rfl
  | cons p ps ih => rw [List.reverse_cons, bytesL_append, ih]; simp [bytesL, BitVec.or_comm]
theorem bytesL_map (l : List Pat) (f : Pat → Pat) (h : ∀ q ∈ l, (f q).bytes = q.bytes) : bytesL (l.map f) = bytesL l := by
  induction l with
  | nil => rfl
  | cons p ps ih => simp only [List.map_cons, bytesL]; rw [h p (by simp), ih fun q hq => h q (by simp [hq])]
theorem back_bytes (p : Pat) : p.back.bytes = p.bytes := by
  induction p using Pat.by_size with | h p ih => ?_
  cases p with
  | mk op s lo hi kids =>
    rw [back_mk, bytes_eq, bytes_eq, kids_mk, kids_mk, op_mk, op_mk, set_mk, set_mk]
    have := bytesL_map _ _ ih
    rw [kids_mk] at this
    cases op == 1
    · simp only [cond_false]; rw [this]
    · simp only [cond_true]; rw [bytesL_reverse, this]
theorem all_map {l : List Pat} {f : Pat → Bool} {g : Pat → Pat} (h : ∀ q ∈ l, f (g q) = f q) : (l.map g).all f = l.all f := by
  induction l with
  | nil => rfl
  | cons p ps ih => simp only [List.map_cons, List.all_cons]; rw [h p (by simp), ih fun q hq => h q (by simp [hq])]
theorem any_map' {l : List Pat} {f : Pat → Bool} {g : Pat → Pat} (h : ∀ q ∈ l, f (g q) = f q) : (l.map g).any f = l.any f := by
  induction l with
  | nil => rfl
  | cons p ps ih => simp only [List.map_cons, List.any_cons]; rw [h p (by simp), ih fun q hq => h q (by simp [hq])]
theorem back_nul (p : Pat) : p.back.nul = p.nul := by
  induction p using Pat.by_size with | h p ih => ?_
  cases p with
  | mk op s lo hi kids =>
    rw [back_mk, nul_eq, nul_eq, kids_mk, kids_mk, op_mk, op_mk, lo_mk, lo_mk]
    rw [kids_mk] at ih
    have h1 := all_map ih
    have h2 := any_map' ih
    cases op == 1
    · simp only [cond_false]; rw [h1, h2]
    · simp only [cond_true]; rw [List.all_reverse, h1]
theorem back_fit (p : Pat) : ∀ d, p.back.fit d = p.fit d := by
  induction p using Pat.by_size with | h p ih => ?_
  intro d
  cases p with
  | mk op s lo hi kids =>
    rw [back_mk, fit_eq, fit_eq, kids_mk, kids_mk, op_mk, op_mk, lo_mk, lo_mk, hi_mk, hi_mk]
    rw [kids_mk] at ih
    have h1 := all_map (f := fun q => Pat.fit q (d + 1)) (fun q hq => ih q hq (d + 1))
    cases op == 1
    · simp only [cond_false]; rw [h1, List.length_map]
    · simp only [cond_true]; rw [List.all_reverse, h1, List.length_reverse, List.length_map]
/-- Where a Rep and a Not have one kid, the program's and the reference's answers are the same. -/
theorem nul_rnul (p : Pat) : p.ok = true → p.nul = p.rnul := by
  induction p using Pat.by_size with | h p ih => ?_
  intro hok
  rw [ok_eq, Bool.and_eq_true] at hok
  obtain ⟨h1, h2⟩ := hok
  have hk : ∀ q ∈ p.kids, q.nul = q.rnul := fun q hq => ih q hq (List.all_eq_true.1 h2 q hq)
  have ha : p.kids.all Pat.nul = p.kids.all Pat.rnul := by
    rw [Bool.eq_iff_iff, List.all_eq_true, List.all_eq_true]
    exact ⟨fun H q hq => by rw [← hk q hq]; exact H q hq, fun H q hq => by rw [hk q hq]; exact H q hq⟩
  have ho : p.kids.any Pat.nul = p.kids.any Pat.rnul := by
    rw [Bool.eq_iff_iff, List.any_eq_true, List.any_eq_true]
    exact ⟨fun ⟨q, hq, H⟩ => ⟨q, hq, by rw [← hk q hq]; exact H⟩, fun ⟨q, hq, H⟩ => ⟨q, hq, by rw [hk q hq]; exact H⟩⟩
  rw [nul_eq, rnul_eq, ha, ho]
  by_cases h3 : p.op = 3
  · have : p.kids.length = 1 := by simpa [h3] using h1
    obtain ⟨q, hq⟩ := List.length_eq_one_iff.1 this
    simp [h3, hq]
  · by_cases h5 : p.op = 5
    · have : p.kids.length = 1 := by simpa [h5] using h1
      obtain ⟨q, hq⟩ := List.length_eq_one_iff.1 this
      simp [h5, hq]
    · have e3 : (p.op == 3) = false := by simpa using h3
      have e5 : (p.op == 5) = false := by simpa using h5
      simp only [e3, e5, cond_false]
end Go.Proofs.YtpfhhdiipedklaaDoor
set_option maxRecDepth 20000
namespace Go.Proofs.YtpfhhdiipedklaaDoor
open Go.RowKit

/-- How many states, the steps by nothing, the steps by bytes. -/
structure Mach where
  n : Nat
  e : List (Nat × Nat)
  a : List (Nat × Nat × BitVec 256)
def Mach.eps (m : Mach) (x y : Nat) : Mach := ⟨m.n, m.e ++ [(x, y)], m.a⟩
def Mach.arc (m : Mach) (x y : Nat) (c : BitVec 256) : Mach := ⟨m.n, m.e, m.a ++ [(x, y, c)]⟩
def Mach.two (m : Mach) : Mach := ⟨m.n + 2, m.e, m.a⟩
/-- A fragment behind a state; its end. -/
def behind (f : Mach → Mach) (q : Mach × Nat) : Mach × Nat := ((f q.1).eps q.2 q.1.n, q.1.n + 1)
def timesB (f : Mach → Mach) : Nat → Mach × Nat → Mach × Nat
  | 0, q => q
  | k + 1, q => timesB f k (behind f q)
def optB (f : Mach → Mach) (e : Nat) : Nat → Mach × Nat → Mach × Nat
  | 0, q => q
  | k + 1, q => optB f e k (behind f (q.1.eps q.2 e, q.2))
def loopB (f : Mach → Mach) (e : Nat) (q : Mach × Nat) : Mach × Nat := ((((f q.1).eps q.2 q.1.n).eps (q.1.n + 1) q.1.n).eps (q.1.n + 1) e, q.2)
mutual
/-- A pattern's fragment, built behind what is there. -/
def bld : Pat → Mach → Mach
  | .mk op c lo hi kids, m =>
    if op = 0 then m.two.arc m.n (m.n + 1) c
    else if op = 1 then (catB kids (m.two, m.n)).1.eps (catB kids (m.two, m.n)).2 (m.n + 1)
    else if op = 2 then altB kids m.n m.two
    else if op = 3 then
      if hi < 0 then (loopB (headB kids) (m.n + 1) (timesB (headB kids) lo.toNat (m.two, m.n))).1.eps (loopB (headB kids) (m.n + 1) (timesB (headB kids) lo.toNat (m.two, m.n))).2 (m.n + 1)
      else (optB (headB kids) (m.n + 1) (hi - lo).toNat (timesB (headB kids) lo.toNat (m.two, m.n))).1.eps (optB (headB kids) (m.n + 1) (hi - lo).toNat (timesB (headB kids) lo.toNat (m.two, m.n))).2 (m.n + 1)
    else m.two
def catB : List Pat → Mach × Nat → Mach × Nat
  | [], q => q
  | p :: ps, q => catB ps (behind (bld p) q)
def altB : List Pat → Nat → Mach → Mach
  | [], _, m => m
  | p :: ps, b, m => altB ps b (((bld p m).eps b m.n).eps (m.n + 1) (b + 1))
def headB : List Pat → Mach → Mach
  | [], m => m
  | p :: _, m => bld p m
end
/-- All steps are between states. -/
structure Mach.ok (m : Mach) : Prop where
  e : ∀ x ∈ m.e, x.1 < m.n ∧ x.2 < m.n
  a : ∀ x ∈ m.a, x.1 < m.n ∧ x.2.1 < m.n
theorem Mach.ok.ok_eps {m : Mach} (h : m.ok) {x y : Nat} (hx : x < m.n) (hy : y < m.n) : (m.eps x y).ok := by
  refine ⟨fun z hz => ?_, h.a⟩
  rcases List.mem_append.1 hz with hz | hz
  · exact h.e z hz
  · rw [List.mem_singleton] at hz; subst hz; exact ⟨hx, hy⟩
theorem Mach.ok_two {m : Mach} (h : m.ok) : m.two.ok := ⟨fun z hz => by have := h.e z hz; simp only [Mach.two]; omega, fun z hz => by have := h.a z hz; simp only [Mach.two]; omega⟩
/-- What every fragment keeps: steps between states, and not too many of them. -/
structure Step (m m' : Mach) (d : Nat) : Prop where
  ok : m.ok → m'.ok
  n : m.n ≤ m'.n
  e : m'.e.length + d + 2 * m.n ≤ m.e.length + 2 * m'.n
  a : m'.a.length + m.n ≤ m.a.length + m'.n
theorem Step.trans {a b c : Mach} {d d' : Nat} (h : Step a b d) (h' : Step b c d') : Step a c (d + d') := ⟨fun h1 => h'.ok (h.ok h1), Nat.le_trans h.n h'.n, by have := h.e; have := h'.e; omega, by have := h.a; have := h'.a; omega⟩
theorem Step.refl (m : Mach) : Step m m 0 := ⟨fun h => h, Nat.le_refl _, by omega, by omega⟩
theorem Step.weak {a b : Mach} {d d' : Nat} (h : Step a b d) (hd : d' ≤ d) : Step a b d' := ⟨h.ok, h.n, by have := h.e; omega, h.a⟩
theorem Step.eps {a b : Mach} {d : Nat} (h : Step a b (d + 1)) {x y : Nat} (hx : x < b.n) (hy : y < b.n) : Step a (b.eps x y) d :=
  ⟨fun h1 => (h.ok h1).ok_eps hx hy, h.n, by have := h.e; simp only [Mach.eps, List.length_append, List.length_singleton]; omega, h.a⟩
theorem Step.two (m : Mach) : Step m m.two 4 := ⟨Mach.ok_two, by simp [Mach.two], by simp only [Mach.two]; omega, by simp only [Mach.two]; omega⟩
/-- A fragment. -/
def Frag (f : Mach → Mach) : Prop := ∀ m, Step m (f m) 3 ∧ m.n + 2 ≤ (f m).n
theorem behind_step {f : Mach → Mach} (hf : Frag f) {m : Mach} {x : Nat} (hx : x < m.n) : Step m (behind f (m, x)).1 2 ∧ (behind f (m, x)).2 < (behind f (m, x)).1.n := by
  have h := hf m
  refine ⟨h.1.eps (by have := h.2; show x < (f m).n; omega) (by have := h.2; show m.n < (f m).n; omega), ?_⟩
  have := h.2
  show m.n + 1 < (f m).n
  omega
theorem times_step {f : Mach → Mach} (hf : Frag f) : ∀ (k : Nat) (m : Mach) (x : Nat), x < m.n → Step m (timesB f k (m, x)).1 0 ∧ (timesB f k (m, x)).2 < (timesB f k (m, x)).1.n
  | 0, m, x, hx => ⟨Step.refl m, hx⟩
  | k + 1, m, x, hx => by
    have h := behind_step hf hx
    have h2 := times_step hf k _ _ h.2
    exact ⟨(h.1.trans h2.1).weak (by omega), h2.2⟩
theorem opt_step {f : Mach → Mach} (hf : Frag f) {e : Nat} : ∀ (k : Nat) (m : Mach) (x : Nat), x < m.n → e < m.n → Step m (optB f e k (m, x)).1 0 ∧ (optB f e k (m, x)).2 < (optB f e k (m, x)).1.n
  | 0, m, x, hx, _ => ⟨Step.refl m, hx⟩
  | k + 1, m, x, hx, he => by
    have hf2 := hf (m.eps x e)
    have h : Step m (behind f (m.eps x e, x)).1 1 ∧ (behind f (m.eps x e, x)).2 < (behind f (m.eps x e, x)).1.n := by
      have h1 : Step m (f (m.eps x e)) 2 := by
        have := hf2.1
        refine ⟨fun h => this.ok (h.ok_eps hx he), this.n, ?_, this.a⟩
        have h3 := this.e
        simp only [Mach.eps, List.length_append, List.length_singleton] at h3 ⊢
        omega
      have hn : m.n + 2 ≤ (f (m.eps x e)).n := hf2.2
      exact ⟨h1.eps (by show x < (f (m.eps x e)).n; omega) (by show m.n < (f (m.eps x e)).n; omega), by show m.n + 1 < (f (m.eps x e)).n; omega⟩
    have h2 := opt_step hf k _ _ h.2 (Nat.lt_of_lt_of_le he h.1.n)
    exact ⟨(h.1.trans h2.1).weak (by omega), h2.2⟩
theorem loop_step {f : Mach → Mach} (hf : Frag f) {m : Mach} {x e : Nat} (hx : x < m.n) (he : e < m.n) : Step m (loopB f e (m, x)).1 0 ∧ (loopB f e (m, x)).2 < (loopB f e (m, x)).1.n := by
  have h := hf m
  have hn := h.2
  have h1 : Step m ((f m).eps x m.n) 2 := h.1.eps (by omega) (by omega)
  have h2 : Step m (((f m).eps x m.n).eps (m.n + 1) m.n) 1 := h1.eps (by show m.n + 1 < (f m).n; omega) (by show m.n < (f m).n; omega)
  have h3 : Step m ((((f m).eps x m.n).eps (m.n + 1) m.n).eps (m.n + 1) e) 0 := h2.eps (by show m.n + 1 < (f m).n; omega) (by show e < (f m).n; omega)
  exact ⟨h3, by show x < (f m).n; omega⟩
theorem cat_step : ∀ {l : List Pat}, (∀ p ∈ l, Frag (bld p)) → ∀ (m : Mach) (x : Nat), x < m.n → Step m (catB l (m, x)).1 0 ∧ (catB l (m, x)).2 < (catB l (m, x)).1.n
  | [], _, m, x, hx => by rw [catB]; exact ⟨Step.refl m, hx⟩
  | p :: ps, H, m, x, hx => by
    rw [catB]
    have h := behind_step (H p (by simp)) hx
    have h2 := cat_step (l := ps) (fun q hq => H q (List.mem_cons_of_mem _ hq)) _ _ h.2
    exact ⟨(h.1.trans h2.1).weak (by omega), h2.2⟩
theorem alt_step : ∀ {l : List Pat}, (∀ p ∈ l, Frag (bld p)) → ∀ (m : Mach) (b : Nat), b + 1 < m.n → Step m (altB l b m) 0
  | [], _, m, b, hb => by rw [altB]; exact Step.refl m
  | p :: ps, H, m, b, hb => by
    rw [altB]
    have h := H p (by simp) m
    have hn := h.2
    have h1 : Step m ((bld p m).eps b m.n) 2 := h.1.eps (by omega) (by omega)
    have h2 : Step m (((bld p m).eps b m.n).eps (m.n + 1) (b + 1)) 1 := h1.eps (by show m.n + 1 < (bld p m).n; omega) (by show b + 1 < (bld p m).n; omega)
    have h3 := alt_step (l := ps) (fun q hq => H q (List.mem_cons_of_mem _ hq)) (((bld p m).eps b m.n).eps (m.n + 1) (b + 1)) b (by show b + 1 < (bld p m).n; omega)
    exact (h2.trans h3).weak (by omega)
theorem two_frag {m m' : Mach} (h : Step m.two m' 0) {x : Nat} (hx : x < m'.n) : Step m (m'.eps x (m.n + 1)) 3 ∧ m.n + 2 ≤ (m'.eps x (m.n + 1)).n := by
  have h1 : Step m m' 4 := ((Step.two m).trans h).weak (by omega)
  have hn : m.n + 2 ≤ m'.n := h.n
  exact ⟨h1.eps hx (by omega), hn⟩
theorem two_lt (m : Mach) : m.n < m.two.n := by simp [Mach.two]
theorem two_lt1 (m : Mach) : m.n + 1 < m.two.n := by simp [Mach.two]
theorem frag_head {l : List Pat} (h : ∀ p ∈ l, Frag (bld p)) (hl : l.length = 1) : Frag (headB l) := by
  obtain ⟨q, rfl⟩ := List.length_eq_one_iff.1 hl
  have e : headB [q] = bld q := by funext m; rw [headB]
  rw [e]; exact h q (by simp)
theorem bld_frag (p : Pat) : p.ok = true → Frag (bld p) := by
  induction p using Pat.by_size with | h p ih => ?_
  intro hok m
  rw [ok_eq, Bool.and_eq_true, List.all_eq_true] at hok
  have hk : ∀ q ∈ p.kids, Frag (bld q) := fun q hq => ih q hq (hok.2 q hq)
  have hone : p.op = 3 → p.kids.length = 1 := fun h => by
    have := hok.1
    simpa [h] using this
  cases p with
  | mk op c lo hi kids =>
    simp only [Pat.kids, Pat.op] at hk hone
    rw [bld]
    split
    · refine ⟨⟨fun h => ⟨(Mach.ok_two h).e, fun z hz => ?_⟩, by simp [Mach.two, Mach.arc], by simp only [Mach.two, Mach.arc]; omega, by simp only [Mach.two, Mach.arc, List.length_append, List.length_singleton]; omega⟩, by simp [Mach.two, Mach.arc]⟩
      rcases List.mem_append.1 hz with hz | hz
      · exact (Mach.ok_two h).a z hz
      · rw [List.mem_singleton] at hz; subst hz; simp [Mach.two, Mach.arc]
    split
    · have h := cat_step hk m.two m.n (two_lt m)
      exact two_frag h.1 h.2
    split
    · have h := alt_step hk m.two m.n (two_lt1 m)
      exact ⟨((Step.two m).trans h).weak (by omega), h.n⟩
    split
    · rename_i h3
      have hf := frag_head hk (hone h3)
      have h := times_step hf lo.toNat m.two m.n (two_lt m)
      have he : m.n + 1 < (timesB (headB kids) lo.toNat (m.two, m.n)).1.n := Nat.lt_of_lt_of_le (two_lt1 m) h.1.n
      split
      · have h2 := loop_step hf h.2 he
        exact two_frag ((h.1.trans h2.1).weak (by omega)) h2.2
      · have h2 := opt_step hf (hi - lo).toNat _ _ h.2 he
        exact two_frag ((h.1.trans h2.1).weak (by omega)) h2.2
    · exact ⟨(Step.two m).weak (by omega), by simp [Mach.two]⟩
/-- How many times each kid is built. -/
def copies (op lo hi : Int) : Nat := if op = 3 then (if hi < 0 then lo.toNat + 1 else hi.toNat) else 1
mutual
/-- How many states a fragment has. -/
def Pat.cnt : Pat → Nat
  | .mk op _ lo hi kids => 2 + copies op lo hi * cntL kids
def cntL : List Pat → Nat
  | [] => 0
  | p :: ps => p.cnt + cntL ps
end
theorem behind_n (f : Mach → Mach) (q : Mach × Nat) : (behind f q).1.n = (f q.1).n := rfl
theorem times_n {f : Mach → Mach} {d : Nat} (hf : ∀ m, (f m).n = m.n + d) : ∀ (k : Nat) (q : Mach × Nat), (timesB f k q).1.n = q.1.n + k * d
  | 0, q => by simp [timesB]
  | k + 1, q => by rw [timesB, times_n hf k, behind_n, hf, Nat.add_mul]; omega
theorem opt_n {f : Mach → Mach} {d e : Nat} (hf : ∀ m, (f m).n = m.n + d) : ∀ (k : Nat) (q : Mach × Nat), (optB f e k q).1.n = q.1.n + k * d
  | 0, q => by simp [optB]
  | k + 1, q => by rw [optB, opt_n hf k, behind_n, hf, Nat.add_mul]; simp only [Mach.eps]; omega
theorem cat_n : ∀ {l : List Pat}, (∀ p ∈ l, ∀ m, (bld p m).n = m.n + p.cnt) → ∀ q : Mach × Nat, (catB l q).1.n = q.1.n + cntL l
  | [], _, q => by simp [catB, cntL]
  | p :: ps, H, q => by
    rw [catB, cat_n (fun x hx => H x (by simp [hx])), behind_n, H p (by simp), cntL]; omega
theorem alt_n : ∀ {l : List Pat}, (∀ p ∈ l, ∀ m, (bld p m).n = m.n + p.cnt) → ∀ (b : Nat) (m : Mach), (altB l b m).n = m.n + cntL l
  | [], _, b, m => by simp [altB, cntL]
  | p :: ps, H, b, m => by
    rw [altB, alt_n (fun x hx => H x (by simp [hx])), cntL]
    simp only [Mach.eps]
    rw [H p (by simp)]; omega
end Go.Proofs.YtpfhhdiipedklaaDoor
set_option maxRecDepth 20000
namespace Go.Proofs.YtpfhhdiipedklaaDoor
open Go.RowKit

theorem union_two (x y : BitVec 256) : unionL [x, y] = x ||| y := by simp [unionL]
theorem sl_two (w : World) (x y : BitVec 256) : Sl (w.alloc (.cells #[.int .u64 (wd x 0), .int .u64 (wd x 1), .int .u64 (wd x 2), .int .u64 (wd x 3), .int .u64 (wd y 0), .int .u64 (wd y 1), .int .u64 (wd y 2), .int .u64 (wd y 3)] 33)) (.slice (some ⟨w.heap.size, 0, none⟩) 2 2) [x, y] := by
  refine ⟨by simp [maxLen], .inr ⟨_, 0, 2, rfl, by simp, ?_⟩⟩
  intro i hi j hj
  match i, hi with
  | 0, _ => match j, hj with
    | 0, _ => simp
    | 1, _ => simp
    | 2, _ => simp
    | 3, _ => simp
  | 1, _ => match j, hj with
    | 0, _ => simp
    | 1, _ => simp
    | 2, _ => simp
    | 3, _ => simp
theorem union_pair (x y : BitVec 256) (w : World) (n : Nat) (hn : w.heap.size = n) :
    Calls Tryd.prog 72 #[.slice (some ⟨n, 0, none⟩) 2 2] (w.alloc (.cells #[.int .u64 (wd x 0), .int .u64 (wd x 1), .int .u64 (wd x 2), .int .u64 (wd x 3), .int .u64 (wd y 0), .int .u64 (wd y 1), .int .u64 (wd y 2), .int .u64 (wd y 3)] 33)) fun e w' => e = .returned (.agg #[.int .u64 (wd (x ||| y) 0), .int .u64 (wd (x ||| y) 1), .int .u64 (wd (x ||| y) 2), .int .u64 (wd (x ||| y) 3)]) ∧ Below w.heap.size w w' := by
  subst hn
  refine (union_any _ _ _ (sl_two w x y)).mono ?_
  rintro e w' ⟨rfl, hb⟩
  rw [union_two]
  exact ⟨rfl, ((Below.refl _ _).alloc (Nat.le_refl _) _).trans (hb.mono (by simp))⟩
end Go.Proofs.YtpfhhdiipedklaaDoor
set_option maxRecDepth 20000
namespace Go.Proofs.YtpfhhdiipedklaaDoor
open Go.RowKit

/-- Block b holds these cells of a node, and may be written. -/
def Box (w : World) (b : Nat) (c : Array Value) : Prop := w.heap[b]? = some (.cells c 36 (0, 0))
theorem Box.lt {w : World} {b : Nat} {c : Array Value} (h : Box w b c) : b < w.heap.size := lt_of_block h
theorem Box.new (w : World) (c : Array Value) {n : Nat} (hn : w.heap.size = n) : Box (w.alloc (.cells c 36)) n c := by subst hn; exact heap_alloc_new w _
theorem Box.lower {w w' : World} {b B : Nat} {c : Array Value} (h : Box w b c) (hb : Below B w w') (hB : b < B) : Box w' b c := (hb.block b hB).trans h
theorem Box.below {w w' : World} {b : Nat} {c : Array Value} (h : Box w b c) (hb : Below w.heap.size w w') : Box w' b c := h.lower hb h.lt
theorem Box.alloc {w : World} {b : Nat} {c : Array Value} (h : Box w b c) (o : Obj) : Box (w.alloc o) b c := h.below ((Below.refl _ _).alloc (Nat.le_refl _) _)
theorem Box.drew {w : World} {b : Nat} {c : Array Value} (h : Box w b c) : Box w.drew b c := h
theorem Box.grown {w w' : World} {b : Nat} {c : Array Value} {x : Option Nat} (h : Box w b c) (hg : w.grownBy w' x) (hx : x ≠ some b) : Box w' b c := (hg.block b h.lt (fun e => hx e.symm)).trans h
theorem Box.other {w : World} {b : Nat} {c : Array Value} (h : Box w b c) {a : Addr} (ha : b ≠ a.block) (u : Value) : Box (w.setCell a u) b c := (Below.heap_setCell _ _ _ _ ha).trans h
theorem Box.set {w : World} {b i : Nat} {c : Array Value} (h : Box w b c) (u : Value) : Box (w.setCell ⟨b, i, none⟩ u) b (c.setIfInBounds i u) := setCell_block h u
theorem Box.cell {w : World} {b : Nat} {c : Array Value} (h : Box w b c) (i : Nat) : w.cell? ⟨b, i, none⟩ = c[i]? := by
  unfold Box at h; simp [World.cell?, h]
theorem Box.free {w : World} {b : Nat} {c : Array Value} (h : Box w b c) (i : Nat) : w.frozen? ⟨b, i, none⟩ = false := by
  unfold Box at h; simp [World.frozen?, h]
theorem Box.cells {w : World} {b : Nat} {v0 v1 v2 v3 v4 v5 v6 v7 : Value} (h : Box w b #[v0, v1, v2, v3, v4, v5, v6, v7]) : w.cell? ⟨b, 0, none⟩ = some v0 ∧ w.cell? ⟨b, 1, none⟩ = some v1 ∧ w.cell? ⟨b, 2, none⟩ = some v2 ∧ w.cell? ⟨b, 3, none⟩ = some v3 ∧ w.cell? ⟨b, 4, none⟩ = some v4 ∧ w.cell? ⟨b, 5, none⟩ = some v5 ∧ w.cell? ⟨b, 6, none⟩ = some v6 ∧ w.cell? ⟨b, 7, none⟩ = some v7 :=
  ⟨h.cell 0, h.cell 1, h.cell 2, h.cell 3, h.cell 4, h.cell 5, h.cell 6, h.cell 7⟩
theorem Box.frees {w : World} {b : Nat} {c : Array Value} (h : Box w b c) : w.frozen? ⟨b, 0, none⟩ = false ∧ w.frozen? ⟨b, 1, none⟩ = false ∧ w.frozen? ⟨b, 2, none⟩ = false ∧ w.frozen? ⟨b, 3, none⟩ = false ∧ w.frozen? ⟨b, 4, none⟩ = false ∧ w.frozen? ⟨b, 5, none⟩ = false ∧ w.frozen? ⟨b, 6, none⟩ = false ∧ w.frozen? ⟨b, 7, none⟩ = false :=
  ⟨h.free 0, h.free 1, h.free 2, h.free 3, h.free 4, h.free 5, h.free 6, h.free 7⟩
theorem Box.set0 {w : World} {b : Nat} {v0 v1 v2 v3 v4 v5 v6 v7 : Value} (h : Box w b #[v0, v1, v2, v3, v4, v5, v6, v7]) (u : Value) : Box (w.setCell ⟨b, 0, none⟩ u) b #[u, v1, v2, v3, v4, v5, v6, v7] := by
  have := h.set (i := 0) u; simpa using this
theorem Box.set1 {w : World} {b : Nat} {v0 v1 v2 v3 v4 v5 v6 v7 : Value} (h : Box w b #[v0, v1, v2, v3, v4, v5, v6, v7]) (u : Value) : Box (w.setCell ⟨b, 1, none⟩ u) b #[v0, u, v2, v3, v4, v5, v6, v7] := by
  have := h.set (i := 1) u; simpa using this
theorem Box.set2 {w : World} {b : Nat} {v0 v1 v2 v3 v4 v5 v6 v7 : Value} (h : Box w b #[v0, v1, v2, v3, v4, v5, v6, v7]) (u : Value) : Box (w.setCell ⟨b, 2, none⟩ u) b #[v0, v1, u, v3, v4, v5, v6, v7] := by
  have := h.set (i := 2) u; simpa using this
theorem Box.set3 {w : World} {b : Nat} {v0 v1 v2 v3 v4 v5 v6 v7 : Value} (h : Box w b #[v0, v1, v2, v3, v4, v5, v6, v7]) (u : Value) : Box (w.setCell ⟨b, 3, none⟩ u) b #[v0, v1, v2, u, v4, v5, v6, v7] := by
  have := h.set (i := 3) u; simpa using this
theorem Box.set4 {w : World} {b : Nat} {v0 v1 v2 v3 v4 v5 v6 v7 : Value} (h : Box w b #[v0, v1, v2, v3, v4, v5, v6, v7]) (u : Value) : Box (w.setCell ⟨b, 4, none⟩ u) b #[v0, v1, v2, v3, u, v5, v6, v7] := by
  have := h.set (i := 4) u; simpa using this
theorem Box.set5 {w : World} {b : Nat} {v0 v1 v2 v3 v4 v5 v6 v7 : Value} (h : Box w b #[v0, v1, v2, v3, v4, v5, v6, v7]) (u : Value) : Box (w.setCell ⟨b, 5, none⟩ u) b #[v0, v1, v2, v3, v4, u, v6, v7] := by
  have := h.set (i := 5) u; simpa using this
theorem Box.set6 {w : World} {b : Nat} {v0 v1 v2 v3 v4 v5 v6 v7 : Value} (h : Box w b #[v0, v1, v2, v3, v4, v5, v6, v7]) (u : Value) : Box (w.setCell ⟨b, 6, none⟩ u) b #[v0, v1, v2, v3, v4, v5, u, v7] := by
  have := h.set (i := 6) u; simpa using this
theorem Box.set7 {w : World} {b : Nat} {v0 v1 v2 v3 v4 v5 v6 v7 : Value} (h : Box w b #[v0, v1, v2, v3, v4, v5, v6, v7]) (u : Value) : Box (w.setCell ⟨b, 7, none⟩ u) b #[v0, v1, v2, v3, v4, v5, v6, u] := by
  have := h.set (i := 7) u; simpa using this
theorem Box.store {w : World} {b : Nat} {v0 v1 v2 v3 v4 v5 v6 v7 : Value} (h : Box w b #[v0, v1, v2, v3, v4, v5, v6, v7]) (u0 u1 u2 u3 u4 u5 u6 u7 : Value) : Box ((((((((w.setCell ⟨b, 0, none⟩ u0).setCell ⟨b, 1, none⟩ u1).setCell ⟨b, 2, none⟩ u2).setCell ⟨b, 3, none⟩ u3).setCell ⟨b, 4, none⟩ u4).setCell ⟨b, 5, none⟩ u5).setCell ⟨b, 6, none⟩ u6).setCell ⟨b, 7, none⟩ u7) b #[u0, u1, u2, u3, u4, u5, u6, u7] :=
  ((((((((h.set0 u0).set1 u1).set2 u2).set3 u3).set4 u4).set5 u5).set6 u6).set7 u7)
theorem below_set8 {B b : Nat} {a w : World} (h : Below B a w) (hb : B ≤ b) (u0 u1 u2 u3 u4 u5 u6 u7 : Value) : Below B a ((((((((w.setCell ⟨b, 0, none⟩ u0).setCell ⟨b, 1, none⟩ u1).setCell ⟨b, 2, none⟩ u2).setCell ⟨b, 3, none⟩ u3).setCell ⟨b, 4, none⟩ u4).setCell ⟨b, 5, none⟩ u5).setCell ⟨b, 6, none⟩ u6).setCell ⟨b, 7, none⟩ u7) :=
  ((((((((h.setCell (p := ⟨b, 0, none⟩) hb _).setCell (p := ⟨b, 1, none⟩) hb _).setCell (p := ⟨b, 2, none⟩) hb _).setCell (p := ⟨b, 3, none⟩) hb _).setCell (p := ⟨b, 4, none⟩) hb _).setCell (p := ⟨b, 5, none⟩) hb _).setCell (p := ⟨b, 6, none⟩) hb _).setCell (p := ⟨b, 7, none⟩) hb _)
theorem Box.other8 {w : World} {d b : Nat} {c : Array Value} (h : Box w d c) (hb : d ≠ b) (u0 u1 u2 u3 u4 u5 u6 u7 : Value) : Box ((((((((w.setCell ⟨b, 0, none⟩ u0).setCell ⟨b, 1, none⟩ u1).setCell ⟨b, 2, none⟩ u2).setCell ⟨b, 3, none⟩ u3).setCell ⟨b, 4, none⟩ u4).setCell ⟨b, 5, none⟩ u5).setCell ⟨b, 6, none⟩ u6).setCell ⟨b, 7, none⟩ u7) d c :=
  ((((((((h.other (a := ⟨b, 0, none⟩) hb _).other (a := ⟨b, 1, none⟩) hb _).other (a := ⟨b, 2, none⟩) hb _).other (a := ⟨b, 3, none⟩) hb _).other (a := ⟨b, 4, none⟩) hb _).other (a := ⟨b, 5, none⟩) hb _).other (a := ⟨b, 6, none⟩) hb _).other (a := ⟨b, 7, none⟩) hb _)
theorem heap_set8 {w : World} {b c : Nat} (hb : c ≠ b) (u0 u1 u2 u3 u4 u5 u6 u7 : Value) : ((((((((w.setCell ⟨b, 0, none⟩ u0).setCell ⟨b, 1, none⟩ u1).setCell ⟨b, 2, none⟩ u2).setCell ⟨b, 3, none⟩ u3).setCell ⟨b, 4, none⟩ u4).setCell ⟨b, 5, none⟩ u5).setCell ⟨b, 6, none⟩ u6).setCell ⟨b, 7, none⟩ u7).heap[c]? = w.heap[c]? := by
  rw [Below.heap_setCell _ _ _ _ (by simpa using hb), Below.heap_setCell _ _ _ _ (by simpa using hb), Below.heap_setCell _ _ _ _ (by simpa using hb), Below.heap_setCell _ _ _ _ (by simpa using hb), Below.heap_setCell _ _ _ _ (by simpa using hb), Below.heap_setCell _ _ _ _ (by simpa using hb), Below.heap_setCell _ _ _ _ (by simpa using hb), Below.heap_setCell _ _ _ _ (by simpa using hb)]
theorem KidsN.set8 {w : World} {lo b : Nat} {l : List Pat} {ks : Value} (h : KidsN w lo l ks) (hb : b < lo) (u0 u1 u2 u3 u4 u5 u6 u7 : Value) : KidsN ((((((((w.setCell ⟨b, 0, none⟩ u0).setCell ⟨b, 1, none⟩ u1).setCell ⟨b, 2, none⟩ u2).setCell ⟨b, 3, none⟩ u3).setCell ⟨b, 4, none⟩ u4).setCell ⟨b, 5, none⟩ u5).setCell ⟨b, 6, none⟩ u6).setCell ⟨b, 7, none⟩ u7) lo l ks :=
  h.lower fun c h1 _ => heap_set8 (by omega) _ _ _ _ _ _ _ _
theorem KidsN.set1 {w : World} {lo b i : Nat} {l : List Pat} {ks : Value} (h : KidsN w lo l ks) (hb : b < lo) (u : Value) : KidsN (w.setCell ⟨b, i, none⟩ u) lo l ks :=
  h.lower fun c h1 _ => Below.heap_setCell _ _ _ _ (by show c ≠ b; omega)
theorem own_not {w : World} {base size n b : Nat} {e : TypeId} {v : Value} {xs : List Value} (h : w.ownsRow base e size v n xs) (hb : b < base) : v.ownBlock ≠ some b := fun e => by
  have := (h.lt b e).1; omega
theorem below_grown {a w w1 : World} {base n size : Nat} {e : TypeId} {v : Value} {xs : List Value} (h : Below a.heap.size a w) (hr : w.ownsRow base e size v n xs) (hg : w.grownBy w1 v.ownBlock) (hB : a.heap.size ≤ base) : Below a.heap.size a w1 :=
  h.grown hg h.size (fun k e => Nat.le_trans hB (hr.lt k e).1)
end Go.Proofs.YtpfhhdiipedklaaDoor
