/- What the texts of layer 8 lean on. -/
import Derived.Test.YtplgnbedcjanhaaD1
import Derived.Test.YtplgnbedcjanhaaJY
import Derived.Maps.AppendAt
import Derived.Deep.AppendLies
import Derived.MapKept
import Derived.Carry
import Derived.Deep.CutRange
import Derived.Deep.RegionHeld3
import Derived.OrdersHeld
set_option maxRecDepth 100000
namespace Go.Proofs.Ytplgnbedcjanhaa
open Go.RowKit

theorem cell_lt {w : World} {a : Addr} {v : Value} (h : w.cell? a = some v) : a.block < w.heap.size := by
  unfold World.cell? at h
  split at h
  · rename_i e; exact (Array.getElem?_eq_some_iff.1 e).1
  · cases h
theorem cell_below {w w' : World} {a : Addr} {v : Value} (hb : Below w.heap.size w w') (h : w.cell? a = some v) : w'.cell? a = some v := (hb.cell (cell_lt h)).trans h
theorem below2 (w : World) (o1 o2 : Obj) : Below w.heap.size w ((w.alloc o1).alloc o2) := ((Below.refl _ _).alloc (Nat.le_refl _) _).alloc (by simp) _
theorem info_parts {i? : Option TypeInfo} {z : Option Value} {s b : Nat} (h : i?.map (fun i => (i.zero, i.size, i.bytes)) = some (z, s, b)) : ∃ i, i? = some i ∧ i.zero = z ∧ i.size = s ∧ i.bytes = b := by
  obtain ⟨i, h1, h2⟩ := Option.map_eq_some_iff.1 h
  simp only [Prod.mk.injEq] at h2
  exact ⟨i, h1, h2.1, h2.2.1, h2.2.2⟩
theorem row_keep {w w' : World} {base n size : Nat} {e : TypeId} {v : Value} {l : List Value} (h : w.ownsRow base e size v n l) (hk : ∀ g cs, v.ownBlock = some g → w.heap[g]? = some (.cells cs e (0, 0)) → w'.heap[g]? = some (.cells cs e (0, 0))) : w'.ownsRow base e size v n l := by
  refine ⟨h.1, ?_⟩
  rcases h.2 with h2 | ⟨g, cap, cur, rfl, h3, hgb, h4⟩
  · exact .inl h2
  · exact .inr ⟨g, cap, cur, rfl, h3, hk g cur rfl hgb, h4⟩
theorem row_block {w : World} {base n size : Nat} {e : TypeId} {v : Value} {l : List Value} (h : w.ownsRow base e size v n l) {g : Nat} (hg : v.ownBlock = some g) : ∃ cs, w.heap[g]? = some (.cells cs e (0, 0)) := by
  rcases h.2 with ⟨rfl, _⟩ | ⟨g', cap, cur, rfl, _, hgb, _⟩
  · simp [Value.ownBlock] at hg
  · obtain rfl : g' = g := by simpa [Value.ownBlock] using hg
    exact ⟨cur, hgb⟩
theorem free_cells {w : World} {g j : Nat} {cur : Array Value} {t : TypeId} (h : w.heap[g]? = some (.cells cur t (0, 0))) : w.frozen? ⟨g, j, none⟩ = false := by simp [World.frozen?, h]
theorem new_one (w : World) (o : Obj) : Below w.heap.size w (w.alloc o) := (Below.refl _ _).alloc (Nat.le_refl _) _
theorem news_in {w : World} {vb : Nat} {cs : Array Value} {t : TypeId} (hvb : w.heap[vb]? = some (.cells cs t (0, 0))) : ∀ j u, cs.toList[j]? = some u → w.cell? ((⟨vb, 0, none⟩ : Addr).add j) = some u := by
  intro j u hj
  exact World.news_of_block hvb j u (by simpa using hj)
theorem infoI : (Try.prog.info? 3).map (fun i => (i.zero, i.size, i.bytes)) = some (some (.int .i64 0), 1, 8) := by kernel_rfl
theorem row_cell {w : World} {base n sz : Nat} {e : TypeId} {v : Value} {l : List Value} (h : w.ownsRow base e sz v n l) (hl : 0 < n) : ∃ b c, v = .slice (some ⟨b, 0, none⟩) n c ∧ ∀ j u, l[j]? = some u → w.cell? ⟨b, j, none⟩ = some u := by
  rcases h.2 with ⟨_, h2⟩ | ⟨g, cap, cur, rfl, _, hgb, _, _, _, hct⟩
  · omega
  · refine ⟨g, cap, rfl, fun j u hj => ?_⟩
    rw [cell_of_row w g j _ _ _ hgb]
    rw [← hct, List.getElem?_take] at hj
    split at hj
    · simpa using hj
    · cases hj
theorem nodup_nat_le : ∀ (n : Nat) (l : List Nat), l.Nodup → (∀ x ∈ l, x < n) → l.length ≤ n
  | 0, l, _, h => by
    cases l with
    | nil => simp
    | cons x xs => have := h x (by simp); omega
  | n + 1, l, hl, h => by
    have h1 := nodup_nat_le n (l.erase n) (hl.erase n) (fun x hx => by
      have h2 := h x (List.mem_of_mem_erase hx)
      have : x ≠ n := fun e => by subst e; exact (hl.not_mem_erase) hx
      omega)
    have h2 := List.length_erase (a := n) (l := l)
    split at h2 <;> omega
theorem own_weak {w : World} {B B' n sz : Nat} {e : TypeId} {v : Value} {l : List Value} (h : w.ownsRow B e sz v n l) (hB : B' ≤ B) : w.ownsRow B' e sz v n l := by
  obtain ⟨h1, h2⟩ := h
  refine ⟨h1, h2.imp_right ?_⟩
  rintro ⟨g, cap, cur, e1, e2, e3⟩
  exact ⟨g, cap, cur, e1, Nat.le_trans hB e2, e3⟩
theorem int_form {w : World} {B : Nat} {v : Value} {l : List Nat} (h : w.ownsRow B 3 1 v l.length (l.map fun x : Nat => Value.int .i64 (x : Int))) : ∃ a cp, v = .slice a l.length cp := by
  rcases h.2 with ⟨rfl, h2⟩ | ⟨g, cap, cur, rfl, _⟩
  · exact ⟨none, 0, by rw [h2]⟩
  · exact ⟨_, _, rfl⟩
theorem one_newsI {w : World} {vb : Nat} {x : Value} (hvb : w.heap[vb]? = some (.cells #[x] 3 (0, 0))) : ∀ j u, [x][j]? = some u → w.cell? ((⟨vb, 0, none⟩ : Addr).add j) = some u := by
  intro j u hj
  exact World.news_of_block hvb j u (by simpa using hj)
/-- A row of one's own behind an append to it. -/
theorem push_row {N B n g cap : Nat} {e : TypeId} {w0 w w7 w8 : World} {v : Value} {xs ys : List Value} (h : Below N w0 w) (hrow : w.ownsRow B e 1 v n xs) (hB : N ≤ B) (hN : N ≤ w.heap.size) (h7 : Below w.heap.size w w7) (hg : w7.grownBy w8 v.ownBlock)
    (_hr : w8.ownsRow B e 1 (.slice (some ⟨g, 0, none⟩) (n + 1) cap) (n + 1) ys) : Below N w0 w8 :=
  (h.trans (h7.mono hN)).grown hg (by have := h7.size; omega) (fun k hk => by have := (hrow.lt k hk).1; omega)
theorem frozen_row {w : World} {g j : Nat} {cur : Array Value} {t : TypeId} (h : w.heap[g]? = some (.cells cur t (0, 0))) : w.frozen? ⟨g, j, none⟩ = false := by simp [World.frozen?, h]
/-- So many places, as cells. -/
def Places (n : Nat) (f : Nat → Bool) : Array Value := ((List.range n).map fun i => Value.bool (f i)).toArray
theorem places_size (n : Nat) (f : Nat → Bool) : (Places n f).size = n := by simp [Places]
theorem places_at {n i : Nat} (f : Nat → Bool) (h : i < n) : (Places n f)[i]? = some (.bool (f i)) := by simp [Places, h]
theorem places_congr {n : Nat} {f g : Nat → Bool} (h : ∀ i, i < n → f i = g i) : Places n f = Places n g := by
  unfold Places
  congr 1
  exact List.map_congr_left fun i hi => by rw [h i (by simpa using hi)]
theorem places_set {n k : Nat} {f g : Nat → Bool} {v : Bool} (hk : g k = v) (h : ∀ i, i < n → i ≠ k → f i = g i) : (Places n f).setIfInBounds k (.bool v) = Places n g := by
  apply Array.ext
  · simp [Places]
  · intro i h1 h2
    have hi : i < n := by simpa [Places] using h2
    rw [Array.getElem_setIfInBounds (by simpa using h1)]
    by_cases e : k = i
    · subst e; simp [Places, hk]
    · rw [if_neg e]; simp [Places, h i hi (fun x => e x.symm)]
/-- A block holds so many places. -/
def Blk (w : World) (b n : Nat) (f : Nat → Bool) : Prop := w.heap[b]? = some (.cells (Places n f) 4 (0, 0))
theorem Blk.cell {w : World} {b n i : Nat} {f : Nat → Bool} (h : Blk w b n f) (hi : i < n) : w.cell? ⟨b, i, none⟩ = some (.bool (f i)) := by
  rw [cell_of_row w b _ _ _ _ h, places_at f hi]
theorem Blk.frozen {w : World} {b n i : Nat} {f : Nat → Bool} (h : Blk w b n f) : w.frozen? ⟨b, i, none⟩ = false := frozen_row (j := i) h
theorem Blk.lt {w : World} {b n : Nat} {f : Nat → Bool} (h : Blk w b n f) : b < w.heap.size := lt_of_block h
theorem Blk.below {w w' : World} {b n : Nat} {f : Nat → Bool} (h : Blk w b n f) (hb : Below w.heap.size w w') : Blk w' b n f := (hb.block b h.lt).trans h
theorem Blk.old {w w' : World} {b n N : Nat} {f : Nat → Bool} (h : Blk w b n f) (hb : Below N w w') (hN : b < N) : Blk w' b n f := (hb.block b hN).trans h
theorem Blk.congr {w : World} {b n : Nat} {f g : Nat → Bool} (h : Blk w b n f) (hf : ∀ i, i < n → f i = g i) : Blk w b n g := by
  unfold Blk at *
  rw [h, places_congr hf]
theorem Blk.set {w : World} {b n k : Nat} {f g : Nat → Bool} {v : Bool} (h : Blk w b n f) (hk : g k = v) (hf : ∀ i, i < n → i ≠ k → f i = g i) : Blk (w.setCell ⟨b, k, none⟩ (.bool v)) b n g := by
  unfold Blk
  rw [setCell_block h, places_set hk hf]
theorem Blk.other {w : World} {b n : Nat} {f : Nat → Bool} (h : Blk w b n f) {a : Addr} (ha : b ≠ a.block) (u : Value) : Blk (w.setCell a u) b n f := by
  unfold Blk
  rw [Below.heap_setCell _ _ _ _ ha]; exact h
theorem Blk.drew {w : World} {b n : Nat} {f : Nat → Bool} (h : Blk w b n f) : Blk w.drew b n f := h
theorem infoBool : (Try.prog.info? 4).map (fun i => (i.zero, i.size, i.bytes)) = some (some (.bool false), 1, 1) := by kernel_rfl
theorem made_bools (n : Nat) : madeCells (Value.bool false).cells n = Places n (fun _ => false) := by
  apply Array.ext
  · simp [Places, size_madeCells]
  · intro i h1 h2
    simp [madeCells, Places, Value.cells, Nat.mod_one]
theorem Blk.new (w : World) (n : Nat) (f : Nat → Bool) : Blk (w.alloc (.cells (Places n f) 4)) w.heap.size n f := heap_alloc_new w _
theorem push_blk {B b m n : Nat} {e : TypeId} {w w7 w8 : World} {v : Value} {xs : List Value} {f : Nat → Bool} (h : Blk w b m f) (hrow : w.ownsRow B e 1 v n xs) (hb : b < B) (h7 : Below w.heap.size w w7) (hg : w7.grownBy w8 v.ownBlock) : Blk w8 b m f := by
  have h1 := h.below h7
  have h9 := h1.lt
  unfold Blk at *
  rw [hg.block b h9 (fun e => by have := (hrow.lt b e.symm).1; omega)]
  exact h1
/-- A slice reads as values. -/
def RdV (w : World) (v : Value) (l : List Value) : Prop := (v = .slice none 0 0 ∧ l = []) ∨ ∃ b o c, v = .slice (some ⟨b, o, none⟩) l.length c ∧ ∀ i (h : i < l.length), w.cell? ⟨b, o + i, none⟩ = some l[i]
theorem RdV.len {w : World} {v : Value} {l : List Value} (h : RdV w v l) : ∃ a c, v = .slice a l.length c := by
  rcases h with ⟨rfl, rfl⟩ | ⟨b, o, c, rfl, _⟩
  · exact ⟨_, _, rfl⟩
  · exact ⟨_, _, rfl⟩
theorem RdV.at {w : World} {v : Value} {l : List Value} (h : RdV w v l) {i : Nat} (hi : i < l.length) : ∃ b o c, v = .slice (some ⟨b, o, none⟩) l.length c ∧ w.cell? ⟨b, o + i, none⟩ = some l[i] := by
  rcases h with ⟨_, rfl⟩ | ⟨b, o, c, e, hr⟩
  · simp at hi
  · exact ⟨b, o, c, e, hr i hi⟩
theorem RdV.below {w w' : World} {v : Value} {l : List Value} (h : RdV w v l) (hb : Below w.heap.size w w') : RdV w' v l := by
  rcases h with h | ⟨b, o, c, e, hr⟩
  · exact .inl h
  · exact .inr ⟨b, o, c, e, fun i hi => cell_below hb (hr i hi)⟩
theorem region_take {P : Program} {Q : Exit → Act → World → Prop} {id : Nat} {ops : List Oper} {a : Act} {w : World} (N : Nat) (hN : ops.length = N) (S : World → Prop) (hm : P.follows .mixedOrders = true) (hS : S w.drew)
    (h : S w.drew → wpAnyH P .any ops.toArray Q S N (Array.replicate N false) a w.drew) : (Code.region id ops.toArray true).wp P Q a w := by
  subst hN
  exact wp_region_held_drew (S := S) hm hS (by simpa using h)
/-- Two rising rows of the same numbers are one. -/
theorem rise_same : ∀ {l m : List Nat}, l.Pairwise (· < ·) → m.Pairwise (· < ·) → (∀ s, s ∈ l ↔ s ∈ m) → l = m
  | [], [], _, _, _ => rfl
  | [], b :: bs, _, _, h => absurd ((h b).2 (by simp)) (by simp)
  | a :: rs, [], _, _, h => absurd ((h a).1 (by simp)) (by simp)
  | a :: rs, b :: bs, ha, hb, h => by
    have ha' := List.pairwise_cons.1 ha
    have hb' := List.pairwise_cons.1 hb
    have e : a = b := by
      rcases List.mem_cons.1 ((h a).1 (by simp)) with e | h1
      · exact e
      · rcases List.mem_cons.1 ((h b).2 (by simp)) with e | h2
        · exact e.symm
        · have := hb'.1 a h1
          have := ha'.1 b h2
          omega
    subst e
    rw [rise_same ha'.2 hb'.2 fun s => ?_]
    constructor
    · intro hs
      rcases List.mem_cons.1 ((h s).1 (List.mem_cons_of_mem _ hs)) with e | h1
      · have := ha'.1 s hs; omega
      · exact h1
    · intro hs
      rcases List.mem_cons.1 ((h s).2 (List.mem_cons_of_mem _ hs)) with e | h1
      · have := hb'.1 s hs; omega
      · exact h1
/-- A text's bytes. -/
def bytesOf (s : ByteArray) : List Nat := s.data.toList.map UInt8.toNat
theorem bytesOf_len (s : ByteArray) : (bytesOf s).length = s.size := by
  rw [bytesOf, List.length_map, Array.length_toList]; rfl
theorem bytesOf_get (s : ByteArray) (k : Nat) (h : k < s.size) (h' : k < (bytesOf s).length) : (bytesOf s)[k] = s[k].toNat := by
  simp only [bytesOf, List.getElem_map, Array.getElem_toList]; rfl
/-- The places that a row has. -/
def placesOf (n : Nat) (g : Nat → Bool) : List Int := ((List.range n).filter g).map Int.ofNat
theorem placesOf_yes {n : Nat} {g : Nat → Bool} (h : g n = true) : placesOf (n + 1) g = placesOf n g ++ [(n : Int)] := by
  unfold placesOf
  rw [List.range_succ, List.filter_append, List.map_append]
  simp [h]
theorem placesOf_no {n : Nat} {g : Nat → Bool} (h : g n = false) : placesOf (n + 1) g = placesOf n g := by
  unfold placesOf
  rw [List.range_succ, List.filter_append, List.map_append]
  simp [h]
theorem placesOf_len (n : Nat) (g : Nat → Bool) : (placesOf n g).length ≤ n := by
  unfold placesOf
  rw [List.length_map]
  have := List.length_filter_le g (List.range n)
  simpa using this
theorem rdv_row {w : World} {base n : Nat} {v : Value} {l : List Value} (h : w.ownsRow base 3 1 v n l) (hn : l.length = n) : RdV w v l := by
  subst hn
  rcases h.2 with ⟨rfl, e⟩ | ⟨g, cap, cur, rfl, _, hgb, hnc, _, _, hct⟩
  · have : l = [] := List.eq_nil_of_length_eq_zero (by simpa using e)
    subst this
    exact .inl ⟨rfl, rfl⟩
  · refine .inr ⟨g, 0, cap, rfl, fun i hi => ?_⟩
    rw [cell_of_row w g _ _ _ _ hgb, Nat.zero_add]
    have h1 : (cur.toList.take (l.length * 1))[i]? = some l[i] := by rw [hct, List.getElem?_eq_getElem hi]
    rw [List.getElem?_take] at h1
    split at h1
    · simpa using h1
    · cases h1
end Go.Proofs.Ytplgnbedcjanhaa
