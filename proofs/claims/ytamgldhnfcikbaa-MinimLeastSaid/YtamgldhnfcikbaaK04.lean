/- Texts that a proof rests on: What the texts of layer 8 lean on. | Machines without choices: as they lie, and where they go. | Where each byte leads, as arcs: the longest runs of bytes that lead to the same. | Contracts: whether arcs, and a machine, may be. -/
import Derived.Test.YtamgldhnfcikbaaK02
import Derived.Test.YtamgldhnfcikbaaK03
import Derived.Maps.AppendAt
import Derived.Deep.AppendLies
import Derived.MapKept
import Derived.Carry
import Derived.Deep.CutRange
import Derived.Deep.RegionHeld3
import Derived.OrdersHeld
set_option maxRecDepth 100000
namespace Go.Proofs.Ytamgldhnfcikbaa
open Go.RowKit

theorem cell_lt {w : World} {a : Addr} {v : Value} (h : w.cell? a = some v) : a.block < w.heap.size := by
  unfold World.cell? at h
  split at h
  · rename_i e; exact (Array.getElem?_eq_some_iff.1 e).1
  · cases h
theorem cell_below {w w' : World} {a : Addr} {v : Value} (hb : Below w.heap.size w w') (h : w.cell? a = some v) : w'.cell? a = some v := (hb.cell (cell_lt h)).trans h
theorem below2 (w : World) (o1 o2 : Obj) : Below w.heap.size w ((w.alloc o1).alloc o2) := ((Below.refl _ _).alloc (Nat.le_refl _) _).alloc (by simp) _
theorem info_parts {i? : Option TypeInfo} {z : Option Value} {s b : Nat} (h : i?.map (fun i => (i.zero, i.size, i.bytes)) = some (z, s, b)) : ∃ i, i? = some i ∧ i.zero = z ∧ i.size = s ∧ i.bytes = b := by
  obtain ⟨i, h1, h2⟩ := Option.map_eq_some_iff.1 h
  simp only [Prod.mk.injEq] at h2
  exact ⟨i, h1, h2.1, h2.2.1, h2.2.2⟩
theorem row_keep {w w' : World} {base n size : Nat} {e : TypeId} {v : Value} {l : List Value} (h : w.ownsRow base e size v n l) (hk : ∀ g cs, v.ownBlock = some g → w.heap[g]? = some (.cells cs e (0, 0)) → w'.heap[g]? = some (.cells cs e (0, 0))) : w'.ownsRow base e size v n l := by
  refine ⟨h.1, ?_⟩
  rcases h.2 with h2 | ⟨g, cap, cur, rfl, h3, hgb, h4⟩
  · exact .inl h2
  · exact .inr ⟨g, cap, cur, rfl, h3, hk g cur rfl hgb, h4⟩
theorem row_block {w : World} {base n size : Nat} {e : TypeId} {v : Value} {l : List Value} (h : w.ownsRow base e size v n l) {g : Nat} (hg : v.ownBlock = some g) : ∃ cs, w.heap[g]? = some (.cells cs e (0, 0)) := by
  rcases h.2 with ⟨rfl, _⟩ | ⟨g', cap, cur, rfl, _, hgb, _⟩
  · simp [Value.ownBlock] at hg
  · obtain rfl : g' = g := by simpa [Value.ownBlock] using hg
    exact ⟨cur, hgb⟩
theorem free_cells {w : World} {g j : Nat} {cur : Array Value} {t : TypeId} (h : w.heap[g]? = some (.cells cur t (0, 0))) : w.frozen? ⟨g, j, none⟩ = false := by simp [World.frozen?, h]
theorem new_one (w : World) (o : Obj) : Below w.heap.size w (w.alloc o) := (Below.refl _ _).alloc (Nat.le_refl _) _
theorem news_in {w : World} {vb : Nat} {cs : Array Value} {t : TypeId} (hvb : w.heap[vb]? = some (.cells cs t (0, 0))) : ∀ j u, cs.toList[j]? = some u → w.cell? ((⟨vb, 0, none⟩ : Addr).add j) = some u := by
  intro j u hj
  exact World.news_of_block hvb j u (by simpa using hj)
theorem infoI : (Try.prog.info? 3).map (fun i => (i.zero, i.size, i.bytes)) = some (some (.int .i64 0), 1, 8) := by kernel_rfl
theorem row_cell {w : World} {base n sz : Nat} {e : TypeId} {v : Value} {l : List Value} (h : w.ownsRow base e sz v n l) (hl : 0 < n) : ∃ b c, v = .slice (some ⟨b, 0, none⟩) n c ∧ ∀ j u, l[j]? = some u → w.cell? ⟨b, j, none⟩ = some u := by
  rcases h.2 with ⟨_, h2⟩ | ⟨g, cap, cur, rfl, _, hgb, _, _, _, hct⟩
  · omega
  · refine ⟨g, cap, rfl, fun j u hj => ?_⟩
    rw [cell_of_row w g j _ _ _ hgb]
    rw [← hct, List.getElem?_take] at hj
    split at hj
    · simpa using hj
    · cases hj
theorem nodup_nat_le : ∀ (n : Nat) (l : List Nat), l.Nodup → (∀ x ∈ l, x < n) → l.length ≤ n
  | 0, l, _, h => by
    cases l with
    | nil => simp
    | cons x xs => have := h x (by simp); omega
  | n + 1, l, hl, h => by
    have h1 := nodup_nat_le n (l.erase n) (hl.erase n) (fun x hx => by
      have h2 := h x (List.mem_of_mem_erase hx)
      have : x ≠ n := fun e => by subst e; exact (hl.not_mem_erase) hx
      omega)
    have h2 := List.length_erase (a := n) (l := l)
    split at h2 <;> omega
theorem own_weak {w : World} {B B' n sz : Nat} {e : TypeId} {v : Value} {l : List Value} (h : w.ownsRow B e sz v n l) (hB : B' ≤ B) : w.ownsRow B' e sz v n l := by
  obtain ⟨h1, h2⟩ := h
  refine ⟨h1, h2.imp_right ?_⟩
  rintro ⟨g, cap, cur, e1, e2, e3⟩
  exact ⟨g, cap, cur, e1, Nat.le_trans hB e2, e3⟩
theorem one_newsI {w : World} {vb : Nat} {x : Value} (hvb : w.heap[vb]? = some (.cells #[x] 3 (0, 0))) : ∀ j u, [x][j]? = some u → w.cell? ((⟨vb, 0, none⟩ : Addr).add j) = some u := by
  intro j u hj
  exact World.news_of_block hvb j u (by simpa using hj)
theorem frozen_row {w : World} {g j : Nat} {cur : Array Value} {t : TypeId} (h : w.heap[g]? = some (.cells cur t (0, 0))) : w.frozen? ⟨g, j, none⟩ = false := by simp [World.frozen?, h]
def Places (n : Nat) (f : Nat → Bool) : Array Value := ((List.range n).map fun i => Value.bool (f i)).toArray
theorem places_at {n i : Nat} (f : Nat → Bool) (h : i < n) : (Places n f)[i]? = some (.bool (f i)) := by simp [Places, h]
theorem places_congr {n : Nat} {f g : Nat → Bool} (h : ∀ i, i < n → f i = g i) : Places n f = Places n g := by
  unfold Places
  congr 1
  exact List.map_congr_left fun i hi => by rw [h i (by simpa using hi)]
theorem places_set {n k : Nat} {f g : Nat → Bool} {v : Bool} (hk : g k = v) (h : ∀ i, i < n → i ≠ k → f i = g i) : (Places n f).setIfInBounds k (.bool v) = Places n g := by
  apply Array.ext
  · simp [Places]
  · intro i h1 h2
    have hi : i < n := by simpa [Places] using h2
    rw [Array.getElem_setIfInBounds (by simpa using h1)]
    by_cases e : k = i
    · subst e; simp [Places, hk]
    · rw [if_neg e]; simp [Places, h i hi (fun x => e x.symm)]
def Blk (w : World) (b n : Nat) (f : Nat → Bool) : Prop := w.heap[b]? = some (.cells (Places n f) 4 (0, 0))
theorem Blk.cell {w : World} {b n i : Nat} {f : Nat → Bool} (h : Blk w b n f) (hi : i < n) : w.cell? ⟨b, i, none⟩ = some (.bool (f i)) := by
  rw [cell_of_row w b _ _ _ _ h, places_at f hi]
theorem Blk.frozen {w : World} {b n i : Nat} {f : Nat → Bool} (h : Blk w b n f) : w.frozen? ⟨b, i, none⟩ = false := frozen_row (j := i) h
theorem Blk.lt {w : World} {b n : Nat} {f : Nat → Bool} (h : Blk w b n f) : b < w.heap.size := lt_of_block h
theorem Blk.below {w w' : World} {b n : Nat} {f : Nat → Bool} (h : Blk w b n f) (hb : Below w.heap.size w w') : Blk w' b n f := (hb.block b h.lt).trans h
theorem Blk.old {w w' : World} {b n N : Nat} {f : Nat → Bool} (h : Blk w b n f) (hb : Below N w w') (hN : b < N) : Blk w' b n f := (hb.block b hN).trans h
theorem Blk.congr {w : World} {b n : Nat} {f g : Nat → Bool} (h : Blk w b n f) (hf : ∀ i, i < n → f i = g i) : Blk w b n g := by
  unfold Blk at *
  rw [h, places_congr hf]
theorem Blk.set {w : World} {b n k : Nat} {f g : Nat → Bool} {v : Bool} (h : Blk w b n f) (hk : g k = v) (hf : ∀ i, i < n → i ≠ k → f i = g i) : Blk (w.setCell ⟨b, k, none⟩ (.bool v)) b n g := by
  unfold Blk
  rw [setCell_block h, places_set hk hf]
theorem Blk.other {w : World} {b n : Nat} {f : Nat → Bool} (h : Blk w b n f) {a : Addr} (ha : b ≠ a.block) (u : Value) : Blk (w.setCell a u) b n f := by
  unfold Blk
  rw [Below.heap_setCell _ _ _ _ ha]; exact h
theorem Blk.drew {w : World} {b n : Nat} {f : Nat → Bool} (h : Blk w b n f) : Blk w.drew b n f := h
theorem infoBool : (Try.prog.info? 4).map (fun i => (i.zero, i.size, i.bytes)) = some (some (.bool false), 1, 1) := by kernel_rfl
theorem made_bools (n : Nat) : madeCells (Value.bool false).cells n = Places n (fun _ => false) := by
  apply Array.ext
  · simp [Places, size_madeCells]
  · intro i h1 h2
    simp [madeCells, Places, Value.cells, Nat.mod_one]
theorem make_bools {c : Int} {n : Nat} (hc : c = n) (hn : n ≤ 100000) (w : World) : (Instr.makeSlice 28 (.int .i64 c) (.int .i64 c)).run Try.prog w = .ok (.slice (some ⟨w.heap.size, 0, none⟩) n n) (w.alloc (.cells (Places n (fun _ => false)) 4)) := by
  subst hc
  obtain ⟨i, hi, hz, hs, hb⟩ := info_parts infoBool
  have := run_make (P := Try.prog) w 28 4 i _ Try.underlying28 hi hz .i64 .i64 n n (by omega) (Int.le_refl _) (by rw [hb]; omega) (by omega)
  rw [← made_bools]
  simpa [hs] using this
theorem Blk.new (w : World) (n : Nat) (f : Nat → Bool) : Blk (w.alloc (.cells (Places n f) 4)) w.heap.size n f := heap_alloc_new w _
def RdV (w : World) (v : Value) (l : List Value) : Prop := (v = .slice none 0 0 ∧ l = []) ∨ ∃ b o c, v = .slice (some ⟨b, o, none⟩) l.length c ∧ ∀ i (h : i < l.length), w.cell? ⟨b, o + i, none⟩ = some l[i]
theorem RdV.len {w : World} {v : Value} {l : List Value} (h : RdV w v l) : ∃ a c, v = .slice a l.length c := by
  rcases h with ⟨rfl, rfl⟩ | ⟨b, o, c, rfl, _⟩
  · exact ⟨_, _, rfl⟩
  · exact ⟨_, _, rfl⟩
theorem RdV.at {w : World} {v : Value} {l : List Value} (h : RdV w v l) {i : Nat} (hi : i < l.length) : ∃ b o c, v = .slice (some ⟨b, o, none⟩) l.length c ∧ w.cell? ⟨b, o + i, none⟩ = some l[i] := by
  rcases h with ⟨_, rfl⟩ | ⟨b, o, c, e, hr⟩
  · simp at hi
  · exact ⟨b, o, c, e, hr i hi⟩
theorem RdV.below {w w' : World} {v : Value} {l : List Value} (h : RdV w v l) (hb : Below w.heap.size w w') : RdV w' v l := by
  rcases h with h | ⟨b, o, c, e, hr⟩
  · exact .inl h
  · exact .inr ⟨b, o, c, e, fun i hi => cell_below hb (hr i hi)⟩
def bytesOf (s : ByteArray) : List Nat := s.data.toList.map UInt8.toNat
def placesOf (n : Nat) (g : Nat → Bool) : List Int := ((List.range n).filter g).map Int.ofNat
theorem placesOf_yes {n : Nat} {g : Nat → Bool} (h : g n = true) : placesOf (n + 1) g = placesOf n g ++ [(n : Int)] := by
  unfold placesOf
  rw [List.range_succ, List.filter_append, List.map_append]
  simp [h]
theorem placesOf_no {n : Nat} {g : Nat → Bool} (h : g n = false) : placesOf (n + 1) g = placesOf n g := by
  unfold placesOf
  rw [List.range_succ, List.filter_append, List.map_append]
  simp [h]
theorem placesOf_len (n : Nat) (g : Nat → Bool) : (placesOf n g).length ≤ n := by
  unfold placesOf
  rw [List.length_map]
  have := List.length_filter_le g (List.range n)
  simpa using this
theorem rdv_row {w : World} {base n : Nat} {v : Value} {l : List Value} (h : w.ownsRow base 3 1 v n l) (hn : l.length = n) : RdV w v l := by
  subst hn
  rcases h.2 with ⟨rfl, e⟩ | ⟨g, cap, cur, rfl, _, hgb, hnc, _, _, hct⟩
  · have : l = [] := List.eq_nil_of_length_eq_zero (by simpa using e)
    subst this
    exact .inl ⟨rfl, rfl⟩
  · refine .inr ⟨g, 0, cap, rfl, fun i hi => ?_⟩
    rw [cell_of_row w g _ _ _ _ hgb, Nat.zero_add]
    have h1 : (cur.toList.take (l.length * 1))[i]? = some l[i] := by rw [hct, List.getElem?_eq_getElem hi]
    rw [List.getElem?_take] at h1
    split at h1
    · simpa using h1
    · cases h1
end Go.Proofs.Ytamgldhnfcikbaa
set_option maxRecDepth 100000
namespace Go.Proofs.Ytamgldhnfcikbaa
open Go.RowKit

structure Arc3 where
  lo : Nat
  hi : Nat
  dest : Int
structure Sta where
  acc : Nat
  arcs : List Arc3
def Arc3.has (a : Arc3) (b : Nat) : Bool := decide (a.lo ≤ b) && decide (b ≤ a.hi)
def firstTo : List Arc3 → Nat → Int
  | [], _ => -1
  | a :: l, b => if a.has b then a.dest else firstTo l b
theorem firstTo_skip {l : List Arc3} {b k : Nat} (h : ∀ i (hi : i < l.length), i < k → l[i].has b = false) : firstTo l b = firstTo (l.drop k) b := by
  induction k generalizing l with
  | zero => rfl
  | succ k ih =>
    cases l with
    | nil => rfl
    | cons a l =>
      have h0 := h 0 (by simp) (by omega)
      simp only [List.getElem_cons_zero] at h0
      rw [firstTo, h0, List.drop_succ_cons]
      simp only [Bool.false_eq_true, if_false]
      exact ih fun i hi hk => by
        have := h (i + 1) (by simpa using hi) (by omega)
        simpa using this
theorem firstTo_at {l : List Arc3} {b k : Nat} (hk : k < l.length) (h : ∀ i (hi : i < l.length), i < k → l[i].has b = false) (hb : l[k].has b = true) : firstTo l b = l[k].dest := by
  rw [firstTo_skip h, List.drop_eq_getElem_cons hk, firstTo, hb]
  simp
theorem firstTo_none {l : List Arc3} {b : Nat} (h : ∀ i (hi : i < l.length), i < l.length → l[i].has b = false) : firstTo l b = -1 := by
  rw [firstTo_skip h, List.drop_length]; rfl
def nextS (m : List Sta) (s : Int) (b : Nat) : Int := if h : 0 ≤ s ∧ s.toNat < m.length then firstTo m[s.toNat].arcs b else -1
def runFrom (m : List Sta) (s : Int) (bs : List Nat) : Int := bs.foldl (nextS m) s
def runS (m : List Sta) (bs : List Nat) : Int := runFrom m (if m.length = 0 then -1 else 0) bs
theorem next_nowhere (m : List Sta) (b : Nat) : nextS m (-1) b = -1 := by unfold nextS; rw [dif_neg (by omega)]
theorem run_nowhere (m : List Sta) : ∀ bs, runFrom m (-1) bs = -1
  | [] => rfl
  | b :: bs => by
    show runFrom m (nextS m (-1) b) bs = -1
    rw [next_nowhere]; exact run_nowhere m bs
def accS (m : List Sta) (s : Int) : Nat := if 0 ≤ s then ((m[s.toNat]?).map Sta.acc).getD 0 else 0
theorem accS_at {m : List Sta} {k : Nat} (h : k < m.length) : accS m k = m[k].acc := by
  unfold accS
  rw [if_pos (by omega), Int.toNat_natCast, List.getElem?_eq_getElem h]; rfl
theorem accS_none {m : List Sta} {s : Int} (h : s < 0 ∨ (m.length : Int) ≤ s) : accS m s = 0 := by
  unfold accS
  split
  · rw [List.getElem?_eq_none (by omega)]; rfl
  · rfl
def wholeS (m : List Sta) (bs : List Nat) : Bool := decide (accS m (runS m bs) ≠ 0)
def behindB (x y : Arc3) : Bool := decide (x.hi + 1 < y.lo) || (decide (x.hi + 1 = y.lo) && decide (y.dest ≠ x.dest))
def arcOk (n : Nat) (a : Arc3) : Bool := decide (a.lo ≤ a.hi) && (decide (0 ≤ a.dest) && decide (a.dest < n))
def prevOk (l : List Arc3) (i : Nat) (a : Arc3) : Bool := i == 0 || match l[i - 1]? with
  | none => true
  | some x => behindB x a
def fitAt (n : Nat) (l : List Arc3) (i : Nat) (a : Arc3) : Bool := arcOk n a && prevOk l i a
def fitsB (n : Nat) (l : List Arc3) : Bool := (List.range l.length).all fun i => match l[i]? with
  | none => true
  | some a => fitAt n l i a
theorem prevOk_zero (l : List Arc3) (a : Arc3) : prevOk l 0 a = true := rfl
theorem prevOk_succ {l : List Arc3} {j : Nat} (h : j < l.length) (a : Arc3) : prevOk l (j + 1) a = behindB l[j] a := by
  unfold prevOk
  rw [Nat.add_sub_cancel, List.getElem?_eq_getElem h]
  rfl
theorem fits_iff {n : Nat} {l : List Arc3} : fitsB n l = true ↔ ∀ i (h : i < l.length), fitAt n l i l[i] = true := by
  unfold fitsB
  rw [List.all_eq_true]
  constructor
  · intro h i hi
    have := h i (by simpa using hi)
    rw [List.getElem?_eq_getElem hi] at this
    exact this
  · intro h i hi
    have hi : i < l.length := by simpa using hi
    rw [List.getElem?_eq_getElem hi]
    exact h i hi
theorem fits_not {n : Nat} {l : List Arc3} {i : Nat} (hi : i < l.length) (h : fitAt n l i l[i] = false) : fitsB n l = false := by
  rw [Bool.eq_false_iff]
  intro h1
  rw [fits_iff.1 h1 i hi] at h
  cases h
def checkB (m : List Sta) : Bool := decide (m.length ≤ 4096) && m.all fun s => fitsB m.length s.arcs
def ArcsAt (w : World) (v : Value) (l : List Arc3) : Prop := ∃ a c, v = .slice a l.length c ∧ ∀ i (h : i < l.length), ∃ b o, a = some ⟨b, o, none⟩ ∧ w.cell? ⟨b, o + i * 3, none⟩ = some (.int .u8 l[i].lo) ∧ w.cell? ⟨b, o + i * 3 + 1, none⟩ = some (.int .u8 l[i].hi) ∧ w.cell? ⟨b, o + i * 3 + 2, none⟩ = some (.int .i64 l[i].dest)
def MachAt (w : World) (v : Value) (m : List Sta) : Prop := ∃ a c, v = .slice a m.length c ∧ ∀ i (h : i < m.length), ∃ b o av, a = some ⟨b, o, none⟩ ∧ w.cell? ⟨b, o + i * 2, none⟩ = some (.int .u64 m[i].acc) ∧ w.cell? ⟨b, o + i * 2 + 1, none⟩ = some av ∧ ArcsAt w av m[i].arcs
theorem ArcsAt.below {w w' : World} {v : Value} {l : List Arc3} (h : ArcsAt w v l) (hb : Below w.heap.size w w') : ArcsAt w' v l := by
  obtain ⟨a, c, e, h1⟩ := h
  exact ⟨a, c, e, fun i hi => by
    obtain ⟨b, o, e1, e2, e3, e4⟩ := h1 i hi
    exact ⟨b, o, e1, cell_below hb e2, cell_below hb e3, cell_below hb e4⟩⟩
theorem MachAt.below {w w' : World} {v : Value} {m : List Sta} (h : MachAt w v m) (hb : Below w.heap.size w w') : MachAt w' v m := by
  obtain ⟨a, c, e, h1⟩ := h
  exact ⟨a, c, e, fun i hi => by
    obtain ⟨b, o, av, e1, e2, e3, e4⟩ := h1 i hi
    exact ⟨b, o, av, e1, cell_below hb e2, cell_below hb e3, e4.below hb⟩⟩
theorem ArcsAt.nil (w : World) : ArcsAt w (.slice none 0 0) [] := ⟨none, 0, rfl, fun i hi => by simp at hi⟩
theorem MachAt.nil (w : World) : MachAt w (.slice none 0 0) [] := ⟨none, 0, rfl, fun i hi => by simp at hi⟩
def Arc3.may (a : Arc3) : Prop := a.lo < 256 ∧ a.hi < 256 ∧ -9223372036854775808 ≤ a.dest ∧ a.dest < 9223372036854775808
def Sta.may (s : Sta) : Prop := s.acc < 18446744073709551616 ∧ ∀ a ∈ s.arcs, a.may
end Go.Proofs.Ytamgldhnfcikbaa
set_option maxRecDepth 100000
namespace Go.Proofs.Ytamgldhnfcikbaa
open Go.RowKit

def arcPut (l : List Arc3) (b : Nat) (t : Int) : List Arc3 :=
  if t < 0 then l
  else match l.getLast? with
    | some x => if x.hi + 1 = b ∧ x.dest = t then l.dropLast ++ [⟨x.lo, b, t⟩] else l ++ [⟨b, b, t⟩]
    | none => l ++ [⟨b, b, t⟩]
def arcsUp (f : Nat → Int) : Nat → List Arc3
  | 0 => []
  | b + 1 => arcPut (arcsUp f b) b (f b)
def arcsS (f : Nat → Int) : List Arc3 := arcsUp f 256
theorem arcsUp_last (f : Nat → Int) (b : Nat) : ∀ x ∈ arcsUp f b, x.lo ≤ x.hi ∧ x.hi < b ∧ 0 ≤ x.dest := by
  induction b with
  | zero => intro x hx; cases hx
  | succ b ih =>
    intro x hx
    show x.lo ≤ x.hi ∧ x.hi < b + 1 ∧ 0 ≤ x.dest
    have hx : x ∈ arcPut (arcsUp f b) b (f b) := hx
    unfold arcPut at hx
    split at hx
    · have := ih x hx; omega
    · cases h : (arcsUp f b).getLast? with
      | none =>
        simp only [h] at hx
        rcases List.mem_append.1 hx with hx | hx
        · have := ih x hx; omega
        · rw [List.mem_singleton] at hx; subst hx; simp; omega
      | some y =>
        simp only [h] at hx
        have hy := ih y (List.mem_of_getLast? h)
        split at hx
        · rcases List.mem_append.1 hx with hx | hx
          · have := ih x (List.dropLast_subset _ hx); omega
          · rw [List.mem_singleton] at hx; subst hx; simp; omega
        · rcases List.mem_append.1 hx with hx | hx
          · have := ih x hx; omega
          · rw [List.mem_singleton] at hx; subst hx; simp; omega
theorem arcsUp_len (f : Nat → Int) (b : Nat) : (arcsUp f b).length ≤ b := by
  induction b with
  | zero => exact Nat.le_refl 0
  | succ b ih =>
    show (arcPut (arcsUp f b) b (f b)).length ≤ b + 1
    unfold arcPut
    split
    · omega
    · cases h : (arcsUp f b).getLast? with
      | none => simp; omega
      | some y =>
        simp only
        split <;> simp <;> omega
end Go.Proofs.Ytamgldhnfcikbaa
set_option maxRecDepth 100000
namespace Go.Proofs.Ytamgldhnfcikbaa
open Go.RowKit

theorem isState_any (n s : Int) (w : World) : Calls Try.prog 72 #[.int .i64 n, .int .i64 s] w fun e w' => e = .returned (.bool (decide (0 ≤ n) && decide (n < s))) ∧ w' = w := by
  cases h0 : decide (0 ≤ n) <;> cases h1 : decide (n < s)
  all_goals
    go_enter Try.func72, Try.ntmps72
    go_wp2
    go_ret
    exact ⟨rfl, rfl⟩
def arcV (a : Arc3) : Value := .agg #[.int .u8 a.lo, .int .u8 a.hi, .int .i64 a.dest]
theorem follows_any (x y : Arc3) (hx : x.lo < 256 ∧ x.hi < 256) (hy : y.lo < 256 ∧ y.hi < 256) (w : World) : Calls Try.prog 73 #[arcV x, arcV y] w fun e w' => e = .returned (.bool (behindB x y)) ∧ Below w.heap.size w w' := by
  obtain ⟨xl, xh, xt⟩ := x
  obtain ⟨yl, yh, yt⟩ := y
  simp only at hx hy
  have hb2 := below2 w (.cells #[.int .u8 xl, .int .u8 xh, .int .i64 xt] 38) (.cells #[.int .u8 yl, .int .u8 yh, .int .i64 yt] 38)
  have HB := Lib.hid hb2
  clear hb2
  unfold arcV behindB
  simp only
  by_cases h1 : xh + 1 < yl
  · have d1 : decide ((yl : Int) - xh > 1) = true := decide_eq_true (by omega)
    have d2 : decide ((1 : Int) < (yl : Int) - xh) = true := decide_eq_true (by omega)
    have HR : Hid ((decide (xh + 1 < yl) || (decide (xh + 1 = yl) && decide (yt ≠ xt))) = true) := Lib.hid (by simp [h1])
    clear h1
    go_enter Try.func73, Try.ntmps73
    go_wp2
    go_ret
    exact ⟨by rw [HR.out]; rfl, HB.out⟩
  · have d1 : decide ((yl : Int) - xh > 1) = false := decide_eq_false (by omega)
    have d2 : decide ((1 : Int) < (yl : Int) - xh) = false := decide_eq_false (by omega)
    by_cases h2 : xh + 1 = yl
    · have d3 : ((yl : Int) - xh == 1) = true := by rw [beq_iff_eq]; omega
      have HR : Hid ((decide (xh + 1 < yl) || (decide (xh + 1 = yl) && decide (yt ≠ xt))) = (yt != xt)) := Lib.hid (by rw [decide_eq_false h1, decide_eq_true h2]; by_cases h3 : yt = xt <;> simp [h3])
      clear h1 h2
      go_enter Try.func73, Try.ntmps73
      go_wp2
      go_ret
      exact ⟨by rw [HR.out]; rfl, HB.out⟩
    · have d3 : ((yl : Int) - xh == 1) = false := by rw [beq_eq_false_iff_ne]; omega
      have HR : Hid ((decide (xh + 1 < yl) || (decide (xh + 1 = yl) && decide (yt ≠ xt))) = false) := Lib.hid (by simp [h1, h2])
      clear h1 h2
      go_enter Try.func73, Try.ntmps73
      go_wp2
      go_ret
      exact ⟨by rw [HR.out]; rfl, HB.out⟩
theorem ArcsAt.len {w : World} {v : Value} {l : List Arc3} (h : ArcsAt w v l) : ∃ a c, v = .slice a l.length c := by
  obtain ⟨a, c, e, _⟩ := h
  exact ⟨a, c, e⟩
theorem MachAt.len {w : World} {v : Value} {m : List Sta} (h : MachAt w v m) : ∃ a c, v = .slice a m.length c := by
  obtain ⟨a, c, e, _⟩ := h
  exact ⟨a, c, e⟩
end Go.Proofs.Ytamgldhnfcikbaa
