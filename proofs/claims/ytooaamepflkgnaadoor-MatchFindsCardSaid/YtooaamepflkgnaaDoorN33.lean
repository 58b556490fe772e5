/- Texts that a proof rests on: Trees of parts, in new blocks. | The contract of newPart. -/
import Derived.Test.YtooaamepflkgnaaDoorN28
import Derived.Test.YtooaamepflkgnaaDoorN32
set_option maxRecDepth 100000
namespace Go.Proofs.YtooaamepflkgnaaDoor
open Go.RowKit

theorem PtrsAt.trans {A B : World} {mb mb' : Nat → Option Pat} {ks : Value} {bs : List Nat} (h : PtrsAt A mb ks bs) (hc : ∀ a v, A.cell? a = some v → B.cell? a = some v) (h2 : ∀ a v, A.cell? a = some v → mb a.block = none → mb' a.block = none) : PtrsAt B mb' ks bs := by
  rcases h with h | ⟨kb, ko, cap, e, hn, hr⟩
  · exact .inl h
  · cases bs with
    | nil => exact absurd rfl hn.1
    | cons b bs => exact .inr ⟨kb, ko, cap, e, ⟨hn.1, h2 ⟨kb, ko + 0, none⟩ _ (hr 0 (by simp)) hn.2⟩, fun i hi => hc _ _ (hr i hi)⟩
theorem TreeP.trans {A B : World} {mb mb' : Nat → Option Pat} (hh : ∀ (b : Nat) (cs : Array Value) (t : TypeId), cs.size = 9 → A.heap[b]? = some (.cells cs t (0, 0)) → B.heap[b]? = some (.cells cs t (0, 0))) (hc : ∀ a v, A.cell? a = some v → B.cell? a = some v)
    (h1 : ∀ m q, mb m = some q → mb' m = some q) (h2 : ∀ a v, A.cell? a = some v → mb a.block = none → mb' a.block = none) (p : Pat) : ∀ {rep : Bool} {b : Nat}, TreeP A mb p rep b → TreeP B mb' p rep b := by
  induction p using Pat.by_size with | h p ih => ?_
  intro rep b h
  rw [TreeP_eq] at h ⊢
  obtain ⟨ks, kn, bs, g1, g2, g3, g4, g5⟩ := h
  have hcell : A.cell? ⟨b, 0, none⟩ = some (.int .i64 p.op) := (cell_of_row _ _ 0 _ _ _ g1).trans rfl
  refine ⟨ks, kn, bs, hh b _ _ rfl g1, h2 ⟨b, 0, none⟩ _ hcell g2, ?_, g4.trans hc h2, ?_⟩
  · split
    · rename_i hk
      rw [if_pos hk] at g3
      obtain ⟨m, e, g⟩ := g3
      exact ⟨m, e, h1 m p g⟩
    · rename_i hk
      rw [if_neg hk] at g3
      exact g3
  · have key : ∀ (l : List Pat) (bs : List Nat), (∀ q ∈ l, q ∈ p.kids) → TreeL A mb l (rep || p.op == 3) bs → TreeL B mb' l (rep || p.op == 3) bs := by
      intro l
      induction l with
      | nil => intro bs _ h; rw [TreeL] at h ⊢; exact h
      | cons q l ihl =>
        intro bs hm h
        rw [TreeL] at h ⊢
        obtain ⟨b', bs', e, k1, k2⟩ := h
        exact ⟨b', bs', e, ih q (hm q (by simp)) k1, ihl bs' (fun x hx => hm x (by simp [hx])) k2⟩
    exact key p.kids bs (fun _ h => h) g5
theorem TreeL.trans {A B : World} {mb mb' : Nat → Option Pat} {rep : Bool} (hh : ∀ (b : Nat) (cs : Array Value) (t : TypeId), cs.size = 9 → A.heap[b]? = some (.cells cs t (0, 0)) → B.heap[b]? = some (.cells cs t (0, 0))) (hc : ∀ a v, A.cell? a = some v → B.cell? a = some v)
    (h1 : ∀ m q, mb m = some q → mb' m = some q) (h2 : ∀ a v, A.cell? a = some v → mb a.block = none → mb' a.block = none) : ∀ {l : List Pat} {bs : List Nat}, TreeL A mb l rep bs → TreeL B mb' l rep bs
  | [], bs, h => by rw [TreeL] at h ⊢; exact h
  | p :: l, bs, h => by
    rw [TreeL] at h ⊢
    obtain ⟨b, bs', e, k1, k2⟩ := h
    exact ⟨b, bs', e, TreeP.trans hh hc h1 h2 p k1, TreeL.trans hh hc h1 h2 k2⟩
theorem TreeL.snoc {w : World} {mb : Nat → Option Pat} {rep : Bool} {q : Pat} {b : Nat} (hq : TreeP w mb q rep b) : ∀ {l : List Pat} {bs : List Nat}, TreeL w mb l rep bs → TreeL w mb (l ++ [q]) rep (bs ++ [b])
  | [], bs, h => by
    rw [TreeL] at h; subst h
    show TreeL w mb [q] rep [b]
    rw [TreeL]
    exact ⟨b, [], rfl, hq, by rw [TreeL]⟩
  | p :: l, bs, h => by
    rw [TreeL] at h
    obtain ⟨b', bs', rfl, k1, k2⟩ := h
    show TreeL w mb (p :: (l ++ [q])) rep (b' :: (bs' ++ [b]))
    rw [TreeL]
    exact ⟨b', _, rfl, k1, TreeL.snoc hq k2⟩
theorem mask_heap (w : World) (lo : Nat) (x : Option Nat) (b : Nat) (cs : Array Value) (t : TypeId) (hcs : cs.size = 9) : (mask w lo x).heap[b]? = some (.cells cs t (0, 0)) ↔ (lo ≤ b ∧ some b ≠ x) ∧ w.heap[b]? = some (.cells cs t (0, 0)) := by
  unfold mask
  simp only [Array.getElem?_mapIdx]
  have hne : ¬ ((.cells #[] 0 (0, 0) : Obj) = .cells cs t (0, 0)) := fun e => by
    cases e; simp at hcs
  by_cases h : b < lo ∨ some b = x
  · have h2 : ¬ (lo ≤ b ∧ some b ≠ x) := fun ⟨h3, h4⟩ => h.elim (fun h => absurd h (by omega)) (fun h => h4 h)
    rcases w.heap[b]? with _ | o
    · simp
    · simp only [Option.map_some, if_pos h, Option.some.injEq, h2, false_and, iff_false]; exact hne
  · have h2 : lo ≤ b ∧ some b ≠ x := ⟨by omega, fun e => h (.inr e)⟩
    rcases w.heap[b]? with _ | o
    · simp
    · have e1 : ¬ b < lo := fun e => h (.inl e)
      have e2 : ¬ some b = x := fun e => h (.inr e)
      simp [e1, e2, show lo ≤ b by omega]
/-- Trees in blocks that stay. -/
theorem keep_hh {w w' : World} {lo lo' : Nat} {x x' : Option Nat} (hk : ∀ c, lo ≤ c → some c ≠ x → c < w.heap.size → w'.heap[c]? = w.heap[c]? ∧ lo' ≤ c ∧ some c ≠ x') (b : Nat) (cs : Array Value) (t : TypeId) (hcs : cs.size = 9) (h : (mask w lo x).heap[b]? = some (.cells cs t (0, 0))) : (mask w' lo' x').heap[b]? = some (.cells cs t (0, 0)) := by
  obtain ⟨⟨h1, h2⟩, h3⟩ := (mask_heap w lo x b cs t hcs).1 h
  obtain ⟨h4, h5, h6⟩ := hk b h1 h2 (lt_of_block h3)
  exact (mask_heap w' lo' x' b cs t hcs).2 ⟨⟨h5, h6⟩, h4.trans h3⟩
theorem keep_hc {w w' : World} {lo lo' : Nat} {x x' : Option Nat} (hk : ∀ c, lo ≤ c → some c ≠ x → c < w.heap.size → w'.heap[c]? = w.heap[c]? ∧ lo' ≤ c ∧ some c ≠ x') (a : Addr) (v : Value) (h : (mask w lo x).cell? a = some v) : (mask w' lo' x').cell? a = some v := by
  obtain ⟨⟨h1, h2⟩, h3⟩ := (mask_cell w lo x a v).1 h
  obtain ⟨h4, h5, h6⟩ := hk a.block h1 h2 (cell_lt h3)
  exact (mask_cell w' lo' x' a v).2 ⟨⟨h5, h6⟩, (World.cell?_of_block h4).trans h3⟩
theorem TreeP.unmask {w : World} {lo : Nat} {x : Option Nat} {mb : Nat → Option Pat} {p : Pat} {rep : Bool} {b : Nat} (h : TreeP (mask w lo x) mb p rep b) : TreeP w mb p rep b :=
  TreeP.trans (fun b cs t hcs h => ((mask_heap w lo x b cs t hcs).1 h).2) (fun a v h => ((mask_cell w lo x a v).1 h).2) (fun _ _ h => h) (fun _ _ _ h => h) p h
theorem TreeP.lower {w : World} {lo lo' : Nat} {mb : Nat → Option Pat} {p : Pat} {rep : Bool} {b : Nat} (h : TreeP (mask w lo none) mb p rep b) (hl : lo' ≤ lo) : TreeP (mask w lo' none) mb p rep b := by
  have hk : ∀ c, lo ≤ c → some c ≠ none → c < w.heap.size → w.heap[c]? = w.heap[c]? ∧ lo' ≤ c ∧ some c ≠ none := fun c h1 _ _ => ⟨rfl, by omega, by simp⟩
  exact TreeP.trans (keep_hh hk) (keep_hc hk) (fun _ _ h => h) (fun _ _ _ h => h) p h
/-- The maps that were made, all empty. -/
def Maps0 (w : World) (mb : Nat → Option Pat) (lo : Nat) : Prop := ∀ m, Xm mb m → lo ≤ m ∧ ∃ c, w.heap[m]? = some (.map #[] c)
theorem Maps0.not_cell {w : World} {mb : Nat → Option Pat} {lo : Nat} (h : Maps0 w mb lo) {a : Addr} {v : Value} (hc : w.cell? a = some v) : mb a.block = none := by
  cases e : mb a.block with
  | none => rfl
  | some q =>
    obtain ⟨_, c, h2⟩ := h a.block (by unfold Xm; rw [e]; simp)
    obtain ⟨o, h3, h4⟩ := cell_obj hc
    rw [h2] at h3; cases h3; cases h4
/-- A new part, as it is while its kids are added. -/
abbrev partN (p : Pat) (v : Value) : Array Value := #[.int .i64 p.op, .int .u64 (wd p.set 0), .int .u64 (wd p.set 1), .int .u64 (wd p.set 2), .int .u64 (wd p.set 3), .int .i64 p.lo, .int .i64 p.hi, v, .map none]
structure NewP (w wr : World) (p : Pat) (rep : Bool) (N : Nat) (k : Nat) (bs : List Nat) (mb : Nat → Option Pat) (v : Value) : Prop where
  below : Below N w wr
  part : wr.heap[N + 1]? = some (.cells (partN p v) 69 (0, 0))
  len : bs.length = k
  row : wr.ownsRow (N + 2) 51 1 v k (bs.map pV)
  tree : TreeL (mask wr (N + 2) v.ownBlock) mb (p.kids.take k) (rep || p.op == 3) bs
  maps : Maps0 wr mb (N + 2)
  nil : bs = [] → v = .slice none 0 0
/-- One more kid. -/
theorem NewP.next {w wr w3 w4 w5 w6 : World} {p q : Pat} {rep : Bool} {N k bq g cap : Nat} {bs : List Nat} {mb mb2 : Nat → Option Pat} {v : Value} {lo2 : Nat} (h : NewP w wr p rep N k bs mb v) (hk : k < p.kids.length) (hq : q = p.kids[k]) (hlo : wr.heap.size ≤ lo2) (hb3 : Below lo2 wr w3) (hl3 : lo2 ≤ w3.heap.size)
    (ht : TreeP (mask w3 lo2 none) mb2 q (rep || p.op == 3) bq) (hm : Maps0 w3 mb2 lo2) (hb4 : Below w3.heap.size w3 w4) (hl4 : w3.heap.size < w4.heap.size) (hrow : w5.ownsRow (N + 2) 51 1 (.slice (some ⟨g, 0, none⟩) (k + 1) cap) (k + 1) (bs.map pV ++ [pV bq])) (hg5 : w4.grownBy w5 v.ownBlock) (hat : v.ownBlock = some g ∨ g = w4.heap.size)
    (h6 : w6 = w5.setCell ⟨N + 1, 7, none⟩ (.slice (some ⟨g, 0, none⟩) (k + 1) cap)) : ∃ mb3, NewP w w6 p rep N (k + 1) (bs ++ [bq]) mb3 (.slice (some ⟨g, 0, none⟩) (k + 1) cap) := by
  have hp1 : N + 1 < wr.heap.size := lt_of_block h.part
  have hown : ∀ c, v.ownBlock = some c → N + 2 ≤ c ∧ c < wr.heap.size := fun c e => h.row.lt c e
  have hs4 := hb4.size
  have hsame : ∀ c, c < wr.heap.size → c ≠ N + 1 → some c ≠ v.ownBlock → w6.heap[c]? = wr.heap[c]? := fun c h1 h2 h3 => by
    rw [h6, Below.heap_setCell _ _ _ _ (by show c ≠ N + 1; exact h2), hg5.block c (by omega) (fun e => h3 e), hb4.block c (by omega), hb3.block c (by omega)]
  have hsame2 : ∀ c, lo2 ≤ c → c < w3.heap.size → w6.heap[c]? = w3.heap[c]? := fun c h1 h2 => by
    rw [h6, Below.heap_setCell _ _ _ _ (by show c ≠ N + 1; omega), hg5.block c (by omega) (fun e => by have := hown c e.symm; omega), hb4.block c (by omega)]
  have hg : ∀ c, c < w4.heap.size → some c ≠ v.ownBlock → c ≠ g := fun c h1 h2 => by
    rcases hat with e | e
    · intro e2; exact h2 (by rw [e, e2])
    · omega
  have hm1 : ∀ m, Xm mb m → m < wr.heap.size := fun m hx => by obtain ⟨_, c, e⟩ := h.maps m hx; exact lt_of_block e
  refine ⟨fun k => if k < lo2 then mb k else mb2 k, ⟨?_, ?_, ?_, ?_, ?_, ?_, fun e => by simp at e⟩⟩
  · have hb6 : Below N w5 w6 := by
      rw [h6]
      exact ⟨rfl, rfl, rfl, by simp, fun c hc => Below.heap_setCell _ _ _ _ (by show c ≠ N + 1; omega)⟩
    have hb5 : Below N w4 w5 := ⟨hg5.os, hg5.tape, hg5.output, hg5.size, fun c hc => hg5.block c (by omega) fun e => by have := hown c e.symm; omega⟩
    exact ((((h.below).trans (hb3.mono (by omega))).trans (hb4.mono (by omega))).trans hb5).trans hb6
  · have h5 : w5.heap[N + 1]? = some (.cells (partN p v) 69 (0, 0)) := by
      rw [hg5.block (N + 1) (by omega) (fun e => by have := hown _ e.symm; omega), hb4.block (N + 1) (by omega), hb3.block (N + 1) (by omega)]
      exact h.part
    have := setCell_block (i := 7) h5 (.slice (some ⟨g, 0, none⟩) (k + 1) cap)
    rw [h6]
    simpa using this
  · simp [h.len]
  · rw [h6, List.map_append]
    exact ownsRow_setCell_below hrow (a := ⟨N + 1, 7, none⟩) (by show N + 1 < N + 2; omega) _
  · rw [take_step p.kids k hk, ← hq]
    refine TreeL.snoc ?_ ?_
    · have hk2 : ∀ c, lo2 ≤ c → some c ≠ none → c < w3.heap.size → w6.heap[c]? = w3.heap[c]? ∧ N + 2 ≤ c ∧ some c ≠ (Value.slice (some ⟨g, 0, none⟩) (k + 1) cap).ownBlock := fun c h1 _ h3 => ⟨hsame2 c h1 h3, by omega, fun e => hg c (by omega) (fun e2 => by have := hown c e2.symm; omega) (by simpa [Value.ownBlock] using e)⟩
      refine TreeP.trans (keep_hh hk2) (keep_hc hk2) (fun m q' e => ?_) (fun a u e e2 => ?_) q ht
      · have := (hm m (by unfold Xm; rw [e]; simp)).1
        exact (if_neg (by omega)).trans e
      · have := ((mask_cell _ _ _ _ _).1 e).1.1
        exact (if_neg (by omega)).trans e2
    · have hk1 : ∀ c, N + 2 ≤ c → some c ≠ v.ownBlock → c < wr.heap.size → w6.heap[c]? = wr.heap[c]? ∧ N + 2 ≤ c ∧ some c ≠ (Value.slice (some ⟨g, 0, none⟩) (k + 1) cap).ownBlock := fun c h1 h2 h3 => ⟨hsame c h3 (by omega) h2, h1, fun e => hg c (by omega) h2 (by simpa [Value.ownBlock] using e)⟩
      refine TreeL.trans (keep_hh hk1) (keep_hc hk1) (fun m q' e => ?_) (fun a u e e2 => ?_) h.tree
      · have := hm1 m (by unfold Xm; rw [e]; simp)
        exact (if_pos (by omega)).trans e
      · have : a.block < wr.heap.size := cell_lt ((mask_cell _ _ _ _ _).1 e).2
        exact (if_pos (by omega)).trans e2
  · intro m hx
    have hx : (if m < lo2 then mb m else mb2 m) ≠ none := hx
    by_cases hml : m < lo2
    · rw [if_pos hml] at hx
      obtain ⟨h1, c, h2⟩ := h.maps m hx
      have h3 : m ≠ N + 1 := by omega
      have h4 : some m ≠ v.ownBlock := fun e => by
        rcases h.row.2 with ⟨rfl, _⟩ | ⟨g', cap', cur, rfl, _, hgb, _⟩
        · simp [Value.ownBlock] at e
        · have e : m = g' := by simpa [Value.ownBlock] using e
          subst e
          rw [hgb] at h2; cases h2
      exact ⟨h1, c, (hsame m (lt_of_block h2) h3 h4).trans h2⟩
    · rw [if_neg hml] at hx
      obtain ⟨h1, c, h2⟩ := hm m hx
      exact ⟨by omega, c, (hsame2 m h1 (lt_of_block h2)).trans h2⟩
/-- What newPart gives. -/
def NewC (w : World) (p : Pat) (rep : Bool) (e : Ending) (w' : World) : Prop := ∃ b mb, e = .returned (.tuple #[pV b, .bool true]) ∧ Below w.heap.size w w' ∧ TreeP (mask w' w.heap.size none) mb p rep b ∧ Maps0 w' mb w.heap.size
/-- All kids are there. -/
theorem NewP.done {w wr w' : World} {p : Pat} {rep : Bool} {N : Nat} {bs : List Nat} {mb : Nat → Option Pat} {v : Value} {kn : Option Nat} (h : NewP w wr p rep N p.kids.length bs mb v) (hN : w.heap.size = N) (hb : Below (N + 1) wr w') (hpb : w'.heap[N + 1]? = some (.cells (partC p v kn) 69 (0, 0))) (hsame : ∀ c, c < wr.heap.size → c ≠ N + 1 → w'.heap[c]? = wr.heap[c]?)
    (hk : (keeps p rep = true ∧ ∃ m c, kn = some m ∧ wr.heap.size ≤ m ∧ w'.heap[m]? = some (.map #[] c)) ∨ (keeps p rep = false ∧ kn = none)) : NewC w p rep (.returned (.tuple #[pV (N + 1), .bool true])) w' := by
  have hp1 : N + 1 < wr.heap.size := lt_of_block h.part
  have hm1 : ∀ m, Xm mb m → m < wr.heap.size := fun m hx => by obtain ⟨_, c, e⟩ := h.maps m hx; exact lt_of_block e
  obtain ⟨mb', hext, hnew, hmaps, hkn⟩ : ∃ mb' : Nat → Option Pat, (∀ m q, mb m = some q → mb' m = some q) ∧ (∀ k, k < wr.heap.size → mb k = none → mb' k = none) ∧ Maps0 w' mb' N ∧ (if keeps p rep = true then ∃ m, kn = some m ∧ mb' m = some p else kn = none) := by
    have hold : ∀ m, Xm mb m → N ≤ m ∧ ∃ c, w'.heap[m]? = some (.map #[] c) := fun m hx => by
      obtain ⟨h1, c, h2⟩ := h.maps m hx
      exact ⟨by omega, c, (hsame m (lt_of_block h2) (by omega)).trans h2⟩
    rcases hk with ⟨hk, mm, c, rfl, h1, h2⟩ | ⟨hk, rfl⟩
    · refine ⟨fun k => if k = mm then some p else mb k, fun m q e => ?_, fun k hk e => ?_, fun m hx => ?_, ?_⟩
      · have := hm1 m (by unfold Xm; rw [e]; simp)
        exact (if_neg (by omega)).trans e
      · exact (if_neg (by omega)).trans e
      · have hx : (if m = mm then some p else mb m) ≠ none := hx
        by_cases e : m = mm
        · subst e; exact ⟨by omega, c, h2⟩
        · rw [if_neg e] at hx; exact hold m hx
      · rw [if_pos hk]; exact ⟨mm, rfl, if_pos rfl⟩
    · exact ⟨mb, fun _ _ e => e, fun _ _ e => e, hold, by rw [if_neg (by rw [hk]; simp)]⟩
  refine ⟨N + 1, mb', rfl, by rw [hN]; exact h.below.trans (hb.mono (by omega)), ?_, by rw [hN]; exact hmaps⟩
  rw [TreeP_eq]
  have hcell : w'.cell? ⟨N + 1, 0, none⟩ = some (.int .i64 p.op) := (cell_of_row _ _ 0 _ _ _ hpb).trans rfl
  refine ⟨v, kn, bs, (mask_heap w' w.heap.size none (N + 1) _ _ rfl).2 ⟨⟨by omega, by simp⟩, hpb⟩, hmaps.not_cell hcell, hkn, ?_, ?_⟩
  · rcases h.row.2 with ⟨rfl, e⟩ | ⟨g, cap, cur, rfl, hg1, hgb, hnc, _, _, hct⟩
    · have e2 : p.kids = [] := by simpa using e
      exact .inl ⟨rfl, List.eq_nil_of_length_eq_zero (by rw [h.len, e2]; rfl)⟩
    · have hne : bs ≠ [] := fun e => by have := h.nil e; simp at this
      have hgw : w'.heap[g]? = some (.cells cur 51 (0, 0)) := (hsame g (lt_of_block hgb) (by omega)).trans hgb
      have hcg : ∀ i (hi : i < bs.length), w'.cell? ⟨g, 0 + i, none⟩ = some (pV bs[i]) := fun i hi => by
        rw [cell_of_row w' g _ _ _ _ hgw, Nat.zero_add]
        have h1 : (cur.toList.take (p.kids.length * 1))[i]? = some (pV bs[i]) := by rw [hct, List.getElem?_map, List.getElem?_eq_getElem hi]; rfl
        rw [List.getElem?_take] at h1
        split at h1
        · simpa using h1
        · cases h1
      refine .inr ⟨g, 0, cap, by rw [h.len], ⟨hne, hmaps.not_cell (a := ⟨g, 0, none⟩) (v := pV (bs[0]'(List.length_pos_iff.2 hne))) ?_⟩, fun i hi => ?_⟩
      · have := hcg 0 (List.length_pos_iff.2 hne)
        rw [Nat.zero_add] at this
        exact this
      · exact (mask_cell _ _ _ _ _).2 ⟨⟨by show w.heap.size ≤ g; omega, by simp⟩, hcg i hi⟩
  · have ht := h.tree
    rw [List.take_length] at ht
    have hk1 : ∀ c, N + 2 ≤ c → some c ≠ v.ownBlock → c < wr.heap.size → w'.heap[c]? = wr.heap[c]? ∧ w.heap.size ≤ c ∧ some c ≠ none := fun c h1 _ h3 => ⟨hsame c h3 (by omega), by omega, by simp⟩
    exact TreeL.trans (keep_hh hk1) (keep_hc hk1) hext (fun a u e e2 => hnew _ (cell_lt ((mask_cell _ _ _ _ _).1 e).2) e2) ht
/-- What newPart does when all kids are there. -/
def stW (W : World) (N : Nat) (st : Bool) : World := bif st then W.setCell ⟨N + 1, 5, none⟩ (.int .i64 0) else W
def updW (W : World) (N : Nat) (st mp : Bool) : World := bif mp then ((stW W N st).alloc (.map #[] 0)).setCell ⟨N + 1, 8, none⟩ (.map (some W.heap.size)) else stW W N st
theorem part_fin {w wr W : World} {p : Pat} {rep : Bool} {N : Nat} {bs : List Nat} {mb : Nat → Option Pat} {v : Value} (h : NewP w wr p rep N p.kids.length bs mb v) (hN : w.heap.size = N) (hW : Below wr.heap.size wr W) (st mp : Bool) (hst : st = (p.op == 3 && p.nul)) (hmp : mp = keeps p rep) :
    NewC w p rep (.returned (.tuple #[pV (N + 1), .bool true])) (updW W N st mp) := by
  have hp1 : N + 1 < wr.heap.size := lt_of_block h.part
  have hsW := hW.size
  have hpW : W.heap[N + 1]? = some (.cells (partN p v) 69 (0, 0)) := (hW.block (N + 1) hp1).trans h.part
  have hl : (if st = true then (0 : Int) else p.lo) = leastN p := by
    unfold leastN
    rw [hst]
    by_cases h3 : p.op = 3 <;> by_cases hn : p.nul = true <;> simp [h3, hn]
  -- behind the first store
  have h1 : (stW W N st).heap[N + 1]? = some (.cells (partC p v none) 69 (0, 0)) ∧ (stW W N st).heap.size = W.heap.size ∧ Below (N + 1) wr (stW W N st) ∧ ∀ c, c < wr.heap.size → c ≠ N + 1 → (stW W N st).heap[c]? = wr.heap[c]? := by
    unfold partC
    rw [← hl]
    cases st with
    | false => exact ⟨hpW, rfl, hW.mono (by omega), fun c h1 _ => hW.block c h1⟩
    | true =>
      have := setCell_block (i := 5) hpW (.int .i64 0)
      refine ⟨by simpa [stW] using this, by simp [stW], ?_, fun c h1 h2 => (Below.heap_setCell _ _ _ _ (by show c ≠ N + 1; exact h2)).trans (hW.block c h1)⟩
      exact ⟨hW.os, hW.tape, hW.output, by simp [stW]; omega, fun c hc => (Below.heap_setCell _ _ _ _ (by show c ≠ N + 1; omega)).trans (hW.block c (by omega))⟩
  obtain ⟨g1, g2, g3, g4⟩ := h1
  cases mp with
  | false => exact h.done hN g3 g1 g4 (.inr ⟨hmp.symm, rfl⟩)
  | true =>
    have hb := below_one (stW W N st) (.map #[] 0)
    have g5 := (hb.block (N + 1) (by omega)).trans g1
    have g6 := setCell_block (i := 8) g5 (.map (some W.heap.size))
    refine h.done (kn := some W.heap.size) hN ?_ (by simpa [updW] using g6) (fun c h1 h2 => ?_) (.inl ⟨hmp.symm, _, 0, rfl, by omega, ?_⟩)
    · exact ⟨g3.os, g3.tape, g3.output, by have := g3.size; simp [updW]; omega, fun c hc => ((Below.heap_setCell _ _ _ _ (by show c ≠ N + 1; omega)).trans (hb.block c (by omega))).trans (g3.block c hc)⟩
    · exact ((Below.heap_setCell _ _ _ _ (by show c ≠ N + 1; exact h2)).trans (hb.block c (by omega))).trans (g4 c h1 h2)
    · have := heap_alloc_new (stW W N st) (.map #[] 0)
      rw [g2] at this
      exact (Below.heap_setCell _ _ _ _ (by show _ ≠ N + 1; omega)).trans this
end Go.Proofs.YtooaamepflkgnaaDoor
set_option maxRecDepth 100000
namespace Go.Proofs.YtooaamepflkgnaaDoor
open Go.RowKit

theorem infoPtr : (Tryd.prog.info? 51).map (fun i => (i.zero, i.size, i.bytes)) = some (some (.pointer none), 1, 8) := by kernel_rfl
theorem one_news {w : World} {vb : Nat} {x : Value} (hvb : w.heap[vb]? = some (.cells #[x] 51 (0, 0))) : ∀ j u, [x][j]? = some u → w.cell? ((⟨vb, 0, none⟩ : Addr).add j) = some u := by
  intro j u hj
  exact World.news_of_block hvb j u (by simpa using hj)
set_option linter.unusedSimpArgs false in
set_option maxHeartbeats 8000000 in
theorem newPart_any : ∀ (n : Nat) (p : Pat) (ks : Value) (w : World) (lv : Int) (rep : Bool), p.size < n → n ≤ 10000 → (p.size : Int) ≤ lv → lv ≤ 65536 → Kids w p.kids ks →
    Calls Tryd.prog 32 #[(.agg #[.int .i64 p.op, .int .u64 (wd p.set 0), .int .u64 (wd p.set 1), .int .u64 (wd p.set 2), .int .u64 (wd p.set 3), .int .i64 p.lo, .int .i64 p.hi, ks]), .int .i64 lv, .bool rep] w (NewC w p rep) := by
  intro n
  induction n with
  | zero => intro p ks w lv rep h; omega
  | succ n ih =>
    intro p ks w lv rep hn hmax hlv1 hlv2 hk
    have hse := size_eq p
    have hlen := length_sizes p.kids
    have IH := Lib.hid ih
    clear ih
    obtain ⟨a, cap, rfl⟩ := hk.len
    obtain ⟨i0, hi, hz0, hz1, hz2⟩ := info_parts infoPtr
    obtain ⟨N, hN⟩ : ∃ N, w.heap.size = N := ⟨_, rfl⟩
    have hl0 : (lv == 0) = false := by simp; omega
    obtain ⟨w1, hw1⟩ : ∃ w1, w1 = w.alloc (.cells #[.int .i64 p.op, .int .u64 (wd p.set 0), .int .u64 (wd p.set 1), .int .u64 (wd p.set 2), .int .u64 (wd p.set 3), .int .i64 p.lo, .int .i64 p.hi, .slice a p.kids.length cap] 28) := ⟨_, rfl⟩
    obtain ⟨w2, hw2⟩ : ∃ w2, w2 = w1.alloc (.cells (partN p (.slice none 0 0)) 69) := ⟨_, rfl⟩
    have hb1 : Below w.heap.size w w1 := by rw [hw1]; exact below_one w _
    have hsz1 : w1.heap.size = N + 1 := by rw [hw1]; simp [hN]
    have hb2 : Below w1.heap.size w1 w2 := by rw [hw2]; exact below_one w1 _
    have hsz2 : w2.heap.size = N + 2 := by rw [hw2]; simp [hsz1]
    have hbn : w1.heap[N]? = some (.cells #[.int .i64 p.op, .int .u64 (wd p.set 0), .int .u64 (wd p.set 1), .int .u64 (wd p.set 2), .int .u64 (wd p.set 3), .int .i64 p.lo, .int .i64 p.hi, .slice a p.kids.length cap] 28 (0, 0)) := by rw [hw1, ← hN]; exact heap_alloc_new w _
    have hbp : w2.heap[N + 1]? = some (.cells (partN p (.slice none 0 0)) 69 (0, 0)) := by rw [hw2, ← hsz1]; exact heap_alloc_new w1 _
    have hb02 : Below N w w2 := by rw [← hN]; exact hb1.trans (hb2.mono hb1.size)
    have hbn2 := (hb2.block N (by omega)).trans hbn
    have hS0 : NewP w w2 p rep N 0 [] (fun _ => none) (.slice none 0 0) := ⟨hb02, hbp, rfl, World.ownsRow_nil _ _ _ _, by rw [List.take_zero, TreeL], fun m hx => absurd rfl hx, fun _ => rfl⟩
    have HS0 := Lib.hid hS0
    have HBN := Lib.hid hbn2
    have HK := Lib.hid (show Kids w p.kids _ from hk)
    have HW1 := Lib.hid hw1
    have HW2 := Lib.hid hw2
    have hpz : (0 : Int) < p.size := by omega
    clear hb1 hb2 hbn hbp hb02 hbn2 hS0 hk hw1 hw2
    go_enter Tryd.func32, Tryd.ntmps32
    go_wp2
    rw [← HW1.out, ← HW2.out]
    have HI := Lib.hid (And.intro hi (And.intro hz0 (And.intro hz1 hz2)))
    clear hi hz0 hz1 hz2
    go_loopw [28] (fun x wr => ∃ (k : Nat) (bs : List Nat) (mb : Nat → Option Pat) (v : Value), x = .int .i64 k ∧ k ≤ p.kids.length ∧ Hid (NewP w wr p rep N k bs mb v) ∧ wr.heap[N]? = some (.cells #[.int .i64 p.op, .int .u64 (wd p.set 0), .int .u64 (wd p.set 1), .int .u64 (wd p.set 2), .int .u64 (wd p.set 3), .int .i64 p.lo, .int .i64 p.hi, .slice a p.kids.length cap] 28 (0, 0))) (fun x _ => p.kids.length - (intOf x).toNat)
    case atStart => exact ⟨0, [], _, _, rfl, Nat.zero_le _, HS0, HBN.out⟩
    case round =>
      obtain ⟨k, bs, mb, v, rfl, hkl, HNP, hbn⟩ := hrel
      have hc0 : wr.cell? ⟨N, 0, none⟩ = some (.int .i64 p.op) := (cell_of_row _ _ 0 _ _ _ hbn).trans rfl
      have hpp1 : N + 1 < wr.heap.size := lt_of_block HNP.out.part
      by_cases hlt : k < p.kids.length
      · obtain ⟨b, o, cap', e, hr⟩ := HK.out.row (by omega)
        cases e
        have hbw : Below w.heap.size w wr := by rw [hN]; exact HNP.out.below
        obtain ⟨ks', hks, e0, e1, e2, e3, e4, e5, e6, e7⟩ := ((hr.below hbw).at k hlt).load
        have hszk := size_kid p.kids k hlt
        obtain ⟨q, hq⟩ : ∃ q, q = p.kids[k] := ⟨_, rfl⟩
        rw [← hq] at hks e0 e1 e2 e3 e4 e5 e6 hszk
        obtain ⟨nk, hnk⟩ : ∃ nk, wr.heap.size = nk := ⟨_, rfl⟩
        obtain ⟨ka, kc, rfl⟩ := hks.len
        obtain ⟨wq, hwq⟩ : ∃ wq, wq = wr.alloc (.cells #[.int .i64 q.op, .int .u64 (wd q.set 0), .int .u64 (wd q.set 1), .int .u64 (wd q.set 2), .int .u64 (wd q.set 3), .int .i64 q.lo, .int .i64 q.hi, .slice ka q.kids.length kc] 28) := ⟨_, rfl⟩
        have hbq : Below wr.heap.size wr wq := by rw [hwq]; exact below_one wr _
        have hszq : wq.heap.size = nk + 1 := by rw [hwq]; simp [hnk]
        have hcq : wq.cell? ⟨N, 0, none⟩ = some (.int .i64 p.op) := cell_below hbq hc0
        have HC := Lib.hid (IH.out q (.slice ka q.kids.length kc) wq (lv - 1) (rep || p.op == 3) (by omega) (by omega) (by omega) (by omega) (hks.below hbq))
        have HQ := Lib.hid hq
        have HWQ := Lib.hid hwq
        have HBQ := Lib.hid hbq
        have HBNR := Lib.hid hbn
        have hlw : IntKind.i64.wrap (lv - 1) = lv - 1 := by rw [IntKind.wrap_i64]; omega
        rw [hwq] at hcq
        clear hq hwq hbq hks hr hbn hbw
        have ARM : Hid (∀ w5 bq mb2, Below wq.heap.size wq w5 → TreeP (mask w5 wq.heap.size none) mb2 q (rep || p.op == 3) bq → Maps0 w5 mb2 wq.heap.size → w5.heap[N + 1]? = some (.cells (partN p v) 69 (0, 0)) ∧ w5.ownsRow (N + 2) 51 1 v k (bs.map pV) ∧ w5.heap[N]? = some (.cells #[.int .i64 p.op, .int .u64 (wd p.set 0), .int .u64 (wd p.set 1), .int .u64 (wd p.set 2), .int .u64 (wd p.set 3), .int .i64 p.lo, .int .i64 p.hi, .slice (some ⟨b, o, none⟩) p.kids.length cap] 28 (0, 0))) := Lib.hid fun w5 bq mb2 h1 _ _ => by
          have hb5 : Below wr.heap.size wr w5 := HBQ.out.trans (h1.mono HBQ.out.size)
          exact ⟨(hb5.block (N + 1) (by omega)).trans HNP.out.part, World.ownsRow.kept HNP.out.row (grown_of_below (x := none) hb5) (by cases v.ownBlock <;> simp), (hb5.block N (by omega)).trans HBNR.out⟩
        cases rep
        · go_wp2_with (first
            | (go_at_call 32; rw [← HWQ.out]; refine HC.out.mono ?_; rintro e w5 ⟨bq, mb2, rfl, hb5, ht5, hm5⟩; obtain ⟨z1, z2, z3⟩ := ARM.out w5 bq mb2 hb5 ht5 hm5; have hsz5 := hb5.size; have z17 := (cell_of_row _ _ 7 _ _ _ z1).trans (show _ = some v from rfl); have hvb := heap_alloc_new w5 (.cells #[pV bq] 51); have z2a := z2.alloc (.cells #[pV bq] 51); have z1a := (heap_alloc_old w5 (.cells #[pV bq] 51) (by omega : N + 1 < w5.heap.size)).trans z1; have HZ := Lib.hid (And.intro hb5 (And.intro ht5 hm5)); have HZ3 := Lib.hid z3; have HZ1 := Lib.hid z1a; have HZ2 := Lib.hid z2a; have HVB := Lib.hid hvb; clear hb5 ht5 hm5 z1 z2 z3 z1a z2a hvb)
            | (at_builtin; refine wpList_append_lies _ rfl _ _ 66 rfl (N + 2) 51 i0 (.pointer none) 1 8 Tryd.underlying66 HI.out.1 HI.out.2.1 HI.out.2.2.1 HI.out.2.2.2 rfl (by decide) v k (bs.map pV) rfl HZ2.out ⟨w5.heap.size, 0, none⟩ 1 1 [pV bq] rfl rfl (one_news HVB.out) (by simp [Value.oneCell']) (by omega) (by unfold maxLen; omega) (by omega) (by simp; omega) (w5.heap.size + 1) (by simp) ?_; intro g cap2 w7 h1 h2 h3 h4; have hpp7 := (h2.block (N + 1) (by simp; omega) (fun e => by have := (HNP.out.row.lt _ e.symm).1; omega)).trans HZ1.out; have hcc7 := (cell_of_row _ _ 7 _ _ _ hpp7).trans (show _ = some v from rfl); have hfr7 := frozen_row (j := 7) hpp7; have H1 := Lib.hid h1; have H2 := Lib.hid h2; have H3 := Lib.hid h3; clear h1 h2 h3 h4))
          obtain ⟨hb5, ht5, hm5⟩ := HZ.out
          have hlo5 : wr.heap.size ≤ wq.heap.size := by omega
          have hs5 := hb5.size
          have hbb : Below wr.heap.size wr w5 := HBQ.out.trans (hb5.mono hlo5)
          obtain ⟨mb3, hnext⟩ := HNP.out.next (q := q) hlt HQ.out (Nat.le_refl _) hbb (by omega) (ht5.lower hlo5) (fun m hx => by obtain ⟨y1, y2⟩ := hm5 m hx; exact ⟨by omega, y2⟩) (below_one w5 (.cells #[pV bq] 51)) (by simp) H1.out H2.out (by rcases H3.out with h | h; exact .inl h; exact .inr (by rw [h]; simp)) rfl
          have hbn7 := (Below.heap_setCell w7 ⟨N + 1, 7, none⟩ (.slice (some ⟨g, 0, none⟩) (k + 1) cap2) N (by show N ≠ N + 1; omega)).trans ((H2.out.block N (by simp; omega) (fun e => by have := (HNP.out.row.lt _ e.symm).1; omega)).trans ((heap_alloc_old w5 (.cells #[pV bq] 51) (by omega : N < w5.heap.size)).trans HZ3.out))
          go_roundw
          case rel => exact ⟨k + 1, bs ++ [bq], mb3, _, num_succ k, by omega, Lib.hid hnext, hbn7⟩
          case measure => simp [intOf]; omega
        · go_wp2_with (first
            | (go_at_call 32; rw [← HWQ.out]; refine HC.out.mono ?_; rintro e w5 ⟨bq, mb2, rfl, hb5, ht5, hm5⟩; obtain ⟨z1, z2, z3⟩ := ARM.out w5 bq mb2 hb5 ht5 hm5; have hsz5 := hb5.size; have z17 := (cell_of_row _ _ 7 _ _ _ z1).trans (show _ = some v from rfl); have hvb := heap_alloc_new w5 (.cells #[pV bq] 51); have z2a := z2.alloc (.cells #[pV bq] 51); have z1a := (heap_alloc_old w5 (.cells #[pV bq] 51) (by omega : N + 1 < w5.heap.size)).trans z1; have HZ := Lib.hid (And.intro hb5 (And.intro ht5 hm5)); have HZ3 := Lib.hid z3; have HZ1 := Lib.hid z1a; have HZ2 := Lib.hid z2a; have HVB := Lib.hid hvb; clear hb5 ht5 hm5 z1 z2 z3 z1a z2a hvb)
            | (at_builtin; refine wpList_append_lies _ rfl _ _ 66 rfl (N + 2) 51 i0 (.pointer none) 1 8 Tryd.underlying66 HI.out.1 HI.out.2.1 HI.out.2.2.1 HI.out.2.2.2 rfl (by decide) v k (bs.map pV) rfl HZ2.out ⟨w5.heap.size, 0, none⟩ 1 1 [pV bq] rfl rfl (one_news HVB.out) (by simp [Value.oneCell']) (by omega) (by unfold maxLen; omega) (by omega) (by simp; omega) (w5.heap.size + 1) (by simp) ?_; intro g cap2 w7 h1 h2 h3 h4; have hpp7 := (h2.block (N + 1) (by simp; omega) (fun e => by have := (HNP.out.row.lt _ e.symm).1; omega)).trans HZ1.out; have hcc7 := (cell_of_row _ _ 7 _ _ _ hpp7).trans (show _ = some v from rfl); have hfr7 := frozen_row (j := 7) hpp7; have H1 := Lib.hid h1; have H2 := Lib.hid h2; have H3 := Lib.hid h3; clear h1 h2 h3 h4))
          obtain ⟨hb5, ht5, hm5⟩ := HZ.out
          have hlo5 : wr.heap.size ≤ wq.heap.size := by omega
          have hs5 := hb5.size
          have hbb : Below wr.heap.size wr w5 := HBQ.out.trans (hb5.mono hlo5)
          obtain ⟨mb3, hnext⟩ := HNP.out.next (q := q) hlt HQ.out (Nat.le_refl _) hbb (by omega) (ht5.lower hlo5) (fun m hx => by obtain ⟨y1, y2⟩ := hm5 m hx; exact ⟨by omega, y2⟩) (below_one w5 (.cells #[pV bq] 51)) (by simp) H1.out H2.out (by rcases H3.out with h | h; exact .inl h; exact .inr (by rw [h]; simp)) rfl
          have hbn7 := (Below.heap_setCell w7 ⟨N + 1, 7, none⟩ (.slice (some ⟨g, 0, none⟩) (k + 1) cap2) N (by show N ≠ N + 1; omega)).trans ((H2.out.block N (by simp; omega) (fun e => by have := (HNP.out.row.lt _ e.symm).1; omega)).trans ((heap_alloc_old w5 (.cells #[pV bq] 51) (by omega : N < w5.heap.size)).trans HZ3.out))
          go_roundw
          case rel => exact ⟨k + 1, bs ++ [bq], mb3, _, num_succ k, by omega, Lib.hid hnext, hbn7⟩
          case measure => simp [intOf]; omega
      · obtain rfl : k = p.kids.length := by omega
        obtain ⟨n1, n2, n3, n4, n5, n6, n7⟩ : wr.cell? ⟨N, 1, none⟩ = some (.int .u64 (wd p.set 0)) ∧ wr.cell? ⟨N, 2, none⟩ = some (.int .u64 (wd p.set 1)) ∧ wr.cell? ⟨N, 3, none⟩ = some (.int .u64 (wd p.set 2)) ∧ wr.cell? ⟨N, 4, none⟩ = some (.int .u64 (wd p.set 3)) ∧ wr.cell? ⟨N, 5, none⟩ = some (.int .i64 p.lo) ∧ wr.cell? ⟨N, 6, none⟩ = some (.int .i64 p.hi) ∧ wr.cell? ⟨N, 7, none⟩ = some (.slice a p.kids.length cap) :=
          ⟨(cell_of_row _ _ 1 _ _ _ hbn).trans rfl, (cell_of_row _ _ 2 _ _ _ hbn).trans rfl, (cell_of_row _ _ 3 _ _ _ hbn).trans rfl, (cell_of_row _ _ 4 _ _ _ hbn).trans rfl, (cell_of_row _ _ 5 _ _ _ hbn).trans rfl, (cell_of_row _ _ 6 _ _ _ hbn).trans rfl, (cell_of_row _ _ 7 _ _ _ hbn).trans rfl⟩
        have hbw : Below w.heap.size w wr := by rw [hN]; exact HNP.out.below
        have HKR := Lib.hid (HK.out.below hbw)
        have HNU := Lib.hid (null_any 10001 p (.slice a p.kids.length cap) wr (by omega) (by omega) HKR.out)
        have HPT := Lib.hid HNP.out.part
        clear hbw hbn hlt
        by_cases h3 : p.op = 3
        · have g3 : (p.op == 3) = true := by simpa using h3
          have g4 : (p.op == 4) = false := by simp [h3]
          have g5 : (p.op == 5) = false := by simp [h3]
          have H3 := Lib.hid h3
          clear h3
          rcases hnul : p.nul with _ | _
          · have HNUL := Lib.hid hnul
            clear hnul
            cases rep
            · go_wp2_with (go_at_call 39; refine HNU.out.mono ?_; rw [HNUL.out]; rintro e w5 ⟨rfl, hb5⟩; have hpp5 := (hb5.block (N + 1) hpp1).trans HPT.out; have hf55 := frozen_row (j := 5) hpp5; have hf58 := frozen_row (j := 8) hpp5; have hc55 := (cell_of_row _ _ 5 _ _ _ hpp5).trans (show _ = some (.int .i64 p.lo) from rfl); have hc58 := (cell_of_row _ _ 8 _ _ _ hpp5).trans (show _ = some (.map none) from rfl); have hc50 := cell_below hb5 hc0)
              have HF := Lib.hid (part_fin HNP.out hN hb5 false false (by rw [HNUL.out]; simp [H3.out]) (by simp [keeps, H3.out, g4, g5]))
              exact bodyPost_ret (v := .tuple #[pV (N + 1), .bool true]) (by simp [results, Tryd.results32, go_sem, *]) rfl HF.out
            · go_wp2_with (go_at_call 39; refine HNU.out.mono ?_; rw [HNUL.out]; rintro e w5 ⟨rfl, hb5⟩; have hpp5 := (hb5.block (N + 1) hpp1).trans HPT.out; have hf55 := frozen_row (j := 5) hpp5; have hf58 := frozen_row (j := 8) hpp5; have hc55 := (cell_of_row _ _ 5 _ _ _ hpp5).trans (show _ = some (.int .i64 p.lo) from rfl); have hc58 := (cell_of_row _ _ 8 _ _ _ hpp5).trans (show _ = some (.map none) from rfl); have hc50 := cell_below hb5 hc0; have hmm := run_makeMap (P := Tryd.prog) 67 w5; have hppA := (heap_alloc_old w5 (.map #[] 0) (lt_of_block hpp5)).trans hpp5; have hfA := frozen_row (j := 8) hppA; have hcA := (cell_of_row _ _ 8 _ _ _ hppA).trans (show _ = some (.map none) from rfl))
              have HF := Lib.hid (part_fin HNP.out hN hb5 false true (by rw [HNUL.out]; simp [H3.out]) (by simp [keeps, H3.out, g4, g5]))
              exact bodyPost_ret (v := .tuple #[pV (N + 1), .bool true]) (by simp [results, Tryd.results32, go_sem, *]) rfl HF.out
          · have HNUL := Lib.hid hnul
            clear hnul
            cases rep
            · go_wp2_with (go_at_call 39; refine HNU.out.mono ?_; rw [HNUL.out]; rintro e w5 ⟨rfl, hb5⟩; have hpp5 := (hb5.block (N + 1) hpp1).trans HPT.out; have hf55 := frozen_row (j := 5) hpp5; have hf58 := frozen_row (j := 8) hpp5; have hc55 := (cell_of_row _ _ 5 _ _ _ hpp5).trans (show _ = some (.int .i64 p.lo) from rfl); have hc58 := (cell_of_row _ _ 8 _ _ _ hpp5).trans (show _ = some (.map none) from rfl); have hc50 := cell_below hb5 hc0)
              have HF := Lib.hid (part_fin HNP.out hN hb5 true false (by rw [HNUL.out]; simp [H3.out]) (by simp [keeps, H3.out, g4, g5]))
              exact bodyPost_ret (v := .tuple #[pV (N + 1), .bool true]) (by simp [results, Tryd.results32, go_sem, *]) rfl HF.out
            · go_wp2_with (go_at_call 39; refine HNU.out.mono ?_; rw [HNUL.out]; rintro e w5 ⟨rfl, hb5⟩; have hpp5 := (hb5.block (N + 1) hpp1).trans HPT.out; have hf55 := frozen_row (j := 5) hpp5; have hf58 := frozen_row (j := 8) hpp5; have hc55 := (cell_of_row _ _ 5 _ _ _ hpp5).trans (show _ = some (.int .i64 p.lo) from rfl); have hc58 := (cell_of_row _ _ 8 _ _ _ hpp5).trans (show _ = some (.map none) from rfl); have hc50 := cell_below hb5 hc0; have hppS := setCell_block (i := 5) hpp5 (.int .i64 0); have hmm := run_makeMap (P := Tryd.prog) 67 (w5.setCell ⟨N + 1, 5, none⟩ (.int .i64 0)); have hppA := (heap_alloc_old (w5.setCell ⟨N + 1, 5, none⟩ (.int .i64 0)) (.map #[] 0) (lt_of_block hppS)).trans hppS; have hfA := frozen_row (j := 8) hppA; have hcA := (cell_of_row _ _ 8 _ _ _ hppA).trans (show _ = some (.map none) from rfl))
              have HF := Lib.hid (part_fin HNP.out hN hb5 true true (by rw [HNUL.out]; simp [H3.out]) (by simp [keeps, H3.out, g4, g5]))
              exact bodyPost_ret (v := .tuple #[pV (N + 1), .bool true]) (by simp [results, Tryd.results32, go_sem, *]) rfl HF.out
        · have g3 : (p.op == 3) = false := by simpa using h3
          have H3 := Lib.hid h3
          clear h3
          by_cases h4 : p.op = 4
          · have g4 : (p.op == 4) = true := by simpa using h4
            have g5 : (p.op == 5) = false := by simp [h4]
            clear h4
            clear hpp1
            have hmm := run_makeMap (P := Tryd.prog) 67 wr
            have hppA := (heap_alloc_old wr (.map #[] 0) (lt_of_block HPT.out)).trans HPT.out
            have hfA := frozen_row (j := 8) hppA
            have hcA := (cell_of_row _ _ 8 _ _ _ hppA).trans (show _ = some (.map none) from rfl)
            go_wp2
            have HF := Lib.hid (part_fin HNP.out hN (Below.refl _ wr) false true (by simp [H3.out]) (by simp [keeps, H3.out, g4, g5]))
            exact bodyPost_ret (v := .tuple #[pV (N + 1), .bool true]) (by simp [results, Tryd.results32, go_sem, *]) rfl HF.out
          · have g4 : (p.op == 4) = false := by simpa using h4
            clear h4
            by_cases h5 : p.op = 5
            · have g5 : (p.op == 5) = true := by simpa using h5
              clear h5
              clear hpp1
              have hmm := run_makeMap (P := Tryd.prog) 67 wr
              have hppA := (heap_alloc_old wr (.map #[] 0) (lt_of_block HPT.out)).trans HPT.out
              have hfA := frozen_row (j := 8) hppA
              have hcA := (cell_of_row _ _ 8 _ _ _ hppA).trans (show _ = some (.map none) from rfl)
              go_wp2
              have HF := Lib.hid (part_fin HNP.out hN (Below.refl _ wr) false true (by simp [H3.out]) (by simp [keeps, H3.out, g4, g5]))
              exact bodyPost_ret (v := .tuple #[pV (N + 1), .bool true]) (by simp [results, Tryd.results32, go_sem, *]) rfl HF.out
            · have g5 : (p.op == 5) = false := by simpa using h5
              clear h5
              clear hpp1
              go_wp2
              have HF := Lib.hid (part_fin HNP.out hN (Below.refl _ wr) false false (by simp [H3.out]) (by simp [keeps, H3.out, g4, g5]))
              exact bodyPost_ret (v := .tuple #[pV (N + 1), .bool true]) (by simp [results, Tryd.results32, go_sem, *]) rfl HF.out
end Go.Proofs.YtooaamepflkgnaaDoor
