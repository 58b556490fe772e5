/- Texts that a proof rests on: Contracts of slices.Insert at rows of runs. | Rows of places, as the reference keeps them, and what they say of a pattern. | The reference's either: places that are in one of two rows. | The reference's often: a repetition, for what its kid's contract is. | Sets of places in memory; contracts of sort.Search, firstReaching, empty, last. | Contracts of slices.Insert at rows of runs: between. | Contracts of slices.Insert at rows of runs: between, without room. -/
import Derived.Test.YtooaamepflkgnaaDoorN12
import Derived.Test.YtooaamepflkgnaaDoorN11
import Derived.Shelf.RegionOpen
import Derived.Shelf.Spec.SlicesInsert
import Derived.Test.YtooaamepflkgnaaDoorN10
set_option maxRecDepth 100000
namespace Go.Proofs.YtooaamepflkgnaaDoor
open Go.RowKit

theorem infoRun : (Tryd.prog.info? 75).map (fun i => (i.zero, i.size, i.bytes)) = some (some (.agg #[.int .i64 0, .int .i64 0]), 2, 16) := by kernel_rfl
theorem sizeRun : (Tryd.prog.info? 75).map (·.size) = some 2 := by kernel_rfl
theorem zeroRun (w : World) : (zeroValue 75).run Tryd.prog w = .ok (.agg #[.int .i64 0, .int .i64 0]) w := by kernel_rfl
theorem sizeOfRun (w : World) : (Go.sizeOf 75).run Tryd.prog w = .ok 2 w := by kernel_rfl
/-- What an insertion or a replacement leaves. -/
def Put (base : Nat) (v : Value) (n : Nat) (xs : List Value) (w : World) (e : Ending) (w' : World) : Prop :=
  ∃ v', e = .returned v' ∧ w'.ownsRow base 75 2 v' n xs ∧ w.grownBy w' v.ownBlock ∧ ∀ g, v'.ownBlock = some g → v.ownBlock = some g ∨ w.heap.size ≤ g
theorem take_all {xs : List Value} {n : Nat} (h : xs.length = n * 2) : xs.take (n * 2) = xs := List.take_of_length_le (by omega)
theorem drop_all {xs : List Value} {n : Nat} (h : xs.length = n * 2) : xs.drop (n * 2) = [] := List.drop_eq_nil_of_le (by omega)
theorem two_cells {w : World} {vb : Nat} {x y : Value} (hvb : w.heap[vb]? = some (.cells #[x, y] 75 (0, 0))) : ∀ j u, [x, y][j]? = some u → w.cell? ((⟨vb, 0, none⟩ : Addr).add j) = some u := by
  intro j u hj
  have := World.news_of_block hvb j u (by simpa using hj)
  exact this
set_option maxHeartbeats 4000000 in
/-- At the end. -/
theorem insert_end (base n : Nat) (v : Value) (xs : List Value) (vb : Nat) (x y : Value) (w : World) (hn : n < 1000000) (hown : w.ownsRow base 75 2 v n xs)
    (hvb : w.heap[vb]? = some (.cells #[x, y] 75 (0, 0))) (hx : x.oneCell' = true) (hy : y.oneCell' = true) (hbase : base ≤ w.heap.size) :
    Calls Tryd.prog 74 #[v, .int .i64 n, .slice (some ⟨vb, 0, none⟩) 1 1] w (Put base v (n + 1) (xs ++ [x, y]) w) := by
  obtain ⟨i0, hi, hz0, hz1, hz2⟩ := info_parts infoRun
  have hform : ∃ a c, v = .slice a n c ∧ n ≤ c ∧ c ≤ maxLen := by
    rcases hown.2 with ⟨rfl, rfl⟩ | ⟨g, cap, cur, rfl, _, _, h1, h2, _⟩
    · exact ⟨none, 0, rfl, Nat.le_refl _, by decide⟩
    · exact ⟨_, _, rfl, h1, h2⟩
  obtain ⟨a, c, rfl, hnc, hcm⟩ := hform
  have HO := Lib.hid hown
  clear hown
  unfold maxLen at hcm
  have HP : ∀ g cap w', w'.ownsRow base 75 2 (.slice (some ⟨g, 0, none⟩) (n + 1) cap) (n + 1) (xs ++ [x, y]) → w.grownBy w' (Value.slice a n c).ownBlock → ((Value.slice a n c).ownBlock = some g ∨ g = w.heap.size) → Put base (.slice a n c) (n + 1) (xs ++ [x, y]) w (.returned (.slice (some ⟨g, 0, none⟩) (n + 1) cap)) w' := fun g cap w' h1 h2 h3 =>
    ⟨_, rfl, h1, h2, fun g' e => by
      have : g' = g := by simpa [Value.ownBlock] using e.symm
      subst this
      rcases h3 with h | h
      · exact .inl h
      · exact .inr (by omega)⟩
  have HPH := Lib.hid HP
  clear HP
  go_enter Tryd.func74, Tryd.ntmps74
  go_wp2_with (at_builtin; refine wpList_append_lies _ rfl _ _ 59 rfl base 75 i0 (.agg #[.int .i64 0, .int .i64 0]) 2 16 Tryd.underlying59 hi hz0 hz1 hz2 rfl (by decide) _ n xs rfl HO.out ⟨vb, 0, none⟩ 1 1 [x, y] rfl rfl (two_cells hvb) (by simp [hx, hy]) (by omega) (by unfold maxLen; omega) (by omega) hbase w.heap.size rfl ?_; intro g cap w' h1 h2 h3 h4)
  all_goals (go_ret; first | exact HPH.out _ _ _ h1 h2 h3 | (have e : c = n := (by omega); subst e; exact HPH.out _ _ _ h1 h2 h3))
/-- Rows: what is put between. -/
theorem splice_two (A B Z : List Value) (x y : Value) (hZ : 2 ≤ Z.length) :
    (splice (splice (A ++ (B ++ Z)) (A.length + 2) B) A.length [x, y]).take (A.length + 2 + B.length) = A ++ ([x, y] ++ B) := by
  have e1 : (A ++ (B ++ Z)).take (A.length + 2) = A ++ (B ++ Z).take 2 := List.take_length_add_append 2
  obtain ⟨T, hT⟩ : ∃ T, T = (B ++ Z).take 2 := ⟨_, rfl⟩
  have hTl : T.length = 2 := by rw [hT, List.length_take, List.length_append]; omega
  obtain ⟨W, hW⟩ : ∃ W, W = (A ++ (B ++ Z)).drop (A.length + 2 + B.length) := ⟨_, rfl⟩
  have e2 : splice (A ++ (B ++ Z)) (A.length + 2) B = A ++ (T ++ (B ++ W)) := by
    unfold splice; rw [e1, ← hT, ← hW, List.append_assoc]
  have e3 : splice (A ++ (T ++ (B ++ W))) A.length [x, y] = A ++ ([x, y] ++ (B ++ W)) := by
    unfold splice
    rw [List.take_left]
    congr 2
    show (A ++ (T ++ (B ++ W))).drop (A.length + 2) = _
    rw [List.drop_length_add_append, ← hTl, List.drop_left]
  rw [e2, e3, Nat.add_assoc, List.take_length_add_append]
  congr 1
  show ([x, y] ++ (B ++ W)).take ([x, y].length + B.length) = _
  rw [List.take_length_add_append, List.take_left]
theorem grown_row_own {w' : World} {base g n cap : Nat} {cur xs : List Value} (hg : w'.heap[g]? = some (.cells cur.toArray 75 (0, 0))) (hb : base ≤ g) (hnc : n ≤ cap) (hcm : cap ≤ maxLen) (hl : cur.length = cap * 2) (ht : cur.take (n * 2) = xs) :
    w'.ownsRow base 75 2 (.slice (some ⟨g, 0, none⟩) n cap) n xs :=
  ⟨by rw [← ht, List.length_take]; omega, .inr ⟨g, cap, _, rfl, hb, hg, hnc, hcm, by simpa using hl, by simpa using ht⟩⟩
theorem frozen_row {w : World} {g j : Nat} {cur : Array Value} {t : TypeId} (h : w.heap[g]? = some (.cells cur t (0, 0))) : w.frozen? ⟨g, j, none⟩ = false := by simp [World.frozen?, h]
theorem shape_row {w : World} {g : Nat} {cur : Array Value} {t : TypeId} (h : w.heap[g]? = some (.cells cur t (0, 0))) : w.shape? g = some (t, cur.size) := by simp [World.shape?, h]
end Go.Proofs.YtooaamepflkgnaaDoor
set_option maxRecDepth 20000
namespace Go.Proofs.YtooaamepflkgnaaDoor
open Go.RowKit

/-- So many places, as cells. -/
def Places (n : Nat) (f : Nat → Bool) : Array Value := ((List.range n).map fun i => Value.bool (f i)).toArray
theorem places_size (n : Nat) (f : Nat → Bool) : (Places n f).size = n := by simp [Places]
theorem places_at {n i : Nat} (f : Nat → Bool) (h : i < n) : (Places n f)[i]? = some (.bool (f i)) := by simp [Places, h]
theorem places_congr {n : Nat} {f g : Nat → Bool} (h : ∀ i, i < n → f i = g i) : Places n f = Places n g := by
  unfold Places
  congr 1
  exact List.map_congr_left fun i hi => by rw [h i (by simpa using hi)]
theorem places_set {n k : Nat} {f g : Nat → Bool} {v : Bool} (hk : g k = v) (h : ∀ i, i < n → i ≠ k → f i = g i) : (Places n f).setIfInBounds k (.bool v) = Places n g := by
  apply Array.ext
  · simp [Places]
  · intro i h1 h2
    have hi : i < n := by simpa [Places] using h2
    rw [Array.getElem_setIfInBounds (by simpa using h1)]
    by_cases e : k = i
    · subst e; simp [Places, hk]
    · rw [if_neg e]; simp [Places, h i hi (fun x => e x.symm)]
/-- A block holds so many places. -/
def Blk (w : World) (b n : Nat) (f : Nat → Bool) : Prop := w.heap[b]? = some (.cells (Places n f) 4 (0, 0))
theorem Blk.cell {w : World} {b n i : Nat} {f : Nat → Bool} (h : Blk w b n f) (hi : i < n) : w.cell? ⟨b, i, none⟩ = some (.bool (f i)) := by
  rw [cell_of_row w b _ _ _ _ h, places_at f hi]
theorem Blk.frozen {w : World} {b n i : Nat} {f : Nat → Bool} (h : Blk w b n f) : w.frozen? ⟨b, i, none⟩ = false := frozen_row (j := i) h
theorem Blk.lt {w : World} {b n : Nat} {f : Nat → Bool} (h : Blk w b n f) : b < w.heap.size := lt_of_block h
theorem Blk.below {w w' : World} {b n : Nat} {f : Nat → Bool} (h : Blk w b n f) (hb : Below w.heap.size w w') : Blk w' b n f := (hb.block b h.lt).trans h
theorem Blk.old {w w' : World} {b n N : Nat} {f : Nat → Bool} (h : Blk w b n f) (hb : Below N w w') (hN : b < N) : Blk w' b n f := (hb.block b hN).trans h
theorem Blk.congr {w : World} {b n : Nat} {f g : Nat → Bool} (h : Blk w b n f) (hf : ∀ i, i < n → f i = g i) : Blk w b n g := by
  unfold Blk at *
  rw [h, places_congr hf]
theorem Blk.set {w : World} {b n k : Nat} {f g : Nat → Bool} {v : Bool} (h : Blk w b n f) (hk : g k = v) (hf : ∀ i, i < n → i ≠ k → f i = g i) : Blk (w.setCell ⟨b, k, none⟩ (.bool v)) b n g := by
  unfold Blk
  rw [setCell_block h, places_set hk hf]
theorem Blk.other {w : World} {b n : Nat} {f : Nat → Bool} (h : Blk w b n f) {a : Addr} (ha : b ≠ a.block) (u : Value) : Blk (w.setCell a u) b n f := by
  unfold Blk
  rw [Below.heap_setCell _ _ _ _ ha]; exact h
theorem Blk.drew {w : World} {b n : Nat} {f : Nat → Bool} (h : Blk w b n f) : Blk w.drew b n f := h
/-- From places to places by a relation. -/
def Go (n : Nat) (R : Int → Int → Prop) (f g : Nat → Bool) : Prop := ∀ x, x ≤ n → (g x = true ↔ ∃ y, y ≤ n ∧ f y = true ∧ R y x)
theorem nat_of {n : Nat} {m : Int} (h0 : 0 ≤ m) (h1 : m ≤ n) : ∃ k : Nat, k ≤ n ∧ m = k := ⟨m.toNat, by omega, by omega⟩
theorem Go.comp {n : Nat} {R Q T : Int → Int → Prop} {f g h : Nat → Bool} (hR : ∀ i j, R i j → 0 ≤ i → i ≤ n → i ≤ j ∧ j ≤ n) (h1 : Go n R f g) (h2 : Go n Q g h) (hT : ∀ i j, T i j ↔ ∃ m, R i m ∧ Q m j) : Go n T f h := by
  intro x hx
  rw [h2 x hx]
  constructor
  · rintro ⟨m, hm, h3, h4⟩
    obtain ⟨y, hy, h5, h6⟩ := (h1 m hm).1 h3
    exact ⟨y, hy, h5, (hT _ _).2 ⟨m, h6, h4⟩⟩
  · rintro ⟨y, hy, h3, h4⟩
    obtain ⟨m, h5, h6⟩ := (hT _ _).1 h4
    have := hR _ _ h5 (by omega) (by omega)
    obtain ⟨k, hk, rfl⟩ := nat_of (n := n) (m := m) (by omega) this.2
    exact ⟨k, hk, (h1 k hk).2 ⟨y, hy, h3, h5⟩, h6⟩
theorem Go.refl (n : Nat) {R : Int → Int → Prop} (hR : ∀ i j, R i j ↔ i = j) (f : Nat → Bool) : Go n R f f := fun x hx => ⟨fun h => ⟨x, hx, h, (hR _ _).2 rfl⟩, fun ⟨y, _, h, e⟩ => by
  have := (hR _ _).1 e
  obtain rfl : y = x := by omega
  exact h⟩
theorem Go.iff {n : Nat} {R Q : Int → Int → Prop} {f g : Nat → Bool} (h : Go n R f g) (hR : ∀ i j : Int, 0 ≤ i → i ≤ n → (Q i j ↔ R i j)) : Go n Q f g := fun x hx => by
  rw [h x hx]
  constructor
  · rintro ⟨y, a, b, c⟩
    exact ⟨y, a, b, (hR _ _ (by omega) (by omega)).2 c⟩
  · rintro ⟨y, a, b, c⟩
    exact ⟨y, a, b, (hR _ _ (by omega) (by omega)).1 c⟩
theorem Go.or {n : Nat} {R Q T : Int → Int → Prop} {f g h : Nat → Bool} (h1 : Go n R f g) (h2 : Go n Q f h) (hT : ∀ i j, T i j ↔ R i j ∨ Q i j) : Go n T f (fun x => g x || h x) := by
  intro x hx
  simp only [Bool.or_eq_true, h1 x hx, h2 x hx, hT]
  constructor
  · rintro (⟨y, a, b, c⟩ | ⟨y, a, b, c⟩)
    · exact ⟨y, a, b, .inl c⟩
    · exact ⟨y, a, b, .inr c⟩
  · rintro ⟨y, a, b, c | c⟩
    · exact .inl ⟨y, a, b, c⟩
    · exact .inr ⟨y, a, b, c⟩
theorem Go.none (n : Nat) {R : Int → Int → Prop} (hR : ∀ i j, ¬ R i j) (f : Nat → Bool) : Go n R f (fun _ => false) := fun x hx => ⟨fun h => by simp at h, fun ⟨y, _, _, h⟩ => absurd h (hR _ _)⟩
/-- Behind some steps more. -/
def Upto (R : Int → Int → Prop) (lo k : Nat) (i j : Int) : Prop := ∃ m : Nat, lo ≤ m ∧ m ≤ lo + k ∧ Pw R m i j
theorem upto_zero (R : Int → Int → Prop) (lo : Nat) (i j : Int) : Upto R lo 0 i j ↔ Pw R lo i j := by
  constructor
  · rintro ⟨m, h1, h2, h3⟩
    obtain rfl : m = lo := by omega
    exact h3
  · intro h
    exact ⟨lo, Nat.le_refl _, Nat.le_refl _, h⟩
theorem upto_succ (R : Int → Int → Prop) (lo k : Nat) (i j : Int) : Upto R lo (k + 1) i j ↔ Upto R lo k i j ∨ Pw R (lo + k + 1) i j := by
  constructor
  · rintro ⟨m, h1, h2, h3⟩
    by_cases e : m = lo + k + 1
    · subst e; exact .inr h3
    · exact .inl ⟨m, h1, by omega, h3⟩
  · rintro (⟨m, h1, h2, h3⟩ | h)
    · exact ⟨m, h1, by omega, h3⟩
    · exact ⟨lo + k + 1, by omega, by omega, h⟩
/-- Steps that stay can be left out. -/
theorem Pw_short {R : Int → Int → Prop} {n : Nat} (hR : ∀ i j, R i j → 0 ≤ i → i ≤ n → i ≤ j ∧ j ≤ n) : ∀ (k : Nat) (i j : Int), Pw R k i j → 0 ≤ i → i ≤ n → ∃ m : Nat, (m : Int) ≤ j - i ∧ Pw R m i j
  | 0, i, j, e, _, _ => by
    rw [Pw] at e
    exact ⟨0, by omega, e⟩
  | k + 1, i, j, ⟨c, h1, h2⟩, h0, hn => by
    have hc := hR i c h1 h0 hn
    obtain ⟨m, h3, h4⟩ := Pw_short hR k c j h2 (by omega) hc.2
    by_cases e : c = i
    · subst e; exact ⟨m, h3, h4⟩
    · exact ⟨m + 1, by omega, c, h1, h4⟩
theorem upto_all {R : Int → Int → Prop} {n lo : Nat} (hR : ∀ i j, R i j → 0 ≤ i → i ≤ n → i ≤ j ∧ j ≤ n) (i j : Int) (h0 : 0 ≤ i) (hn : i ≤ n) : Upto R lo (n + 1) i j ↔ ∃ k : Nat, lo ≤ k ∧ Pw R k i j := by
  constructor
  · rintro ⟨m, h1, _, h3⟩; exact ⟨m, h1, h3⟩
  · rintro ⟨k, h1, h3⟩
    obtain ⟨d, rfl⟩ : ∃ d, k = lo + d := ⟨k - lo, by omega⟩
    obtain ⟨c, h4, h5⟩ := (Pw_add R lo d i j).1 h3
    have hc := Pw_mono hR lo i c h4 h0 hn
    have hj := Pw_mono hR d c j h5 (by omega) hc.2
    obtain ⟨m, h6, h7⟩ := Pw_short hR d c j h5 (by omega) hc.2
    exact ⟨lo + m, by omega, by omega, (Pw_add R lo m i j).2 ⟨c, h4, h7⟩⟩
/-- What a repetition is, for a kind and numbers that may be. -/
theorem rep_upto {s : ByteArray} {p q : Pat} (hop : p.op = 3) (hk : p.kids = [q]) (hn : p.num = true) :
    (p.hi < 0 → ∀ i j : Int, 0 ≤ i → i ≤ s.size → (p.M s i j ↔ Upto (q.M s) p.lo.toNat (s.size + 1) i j)) ∧
    (0 ≤ p.hi → ∀ i j : Int, (p.M s i j ↔ Upto (q.M s) p.lo.toNat (p.hi - p.lo).toNat i j)) ∧ 0 ≤ p.lo ∧ p.lo ≤ 1000 ∧ p.hi ≤ 1000 ∧ (0 ≤ p.hi → p.lo ≤ p.hi) := by
  rw [num_eq, Bool.and_eq_true] at hn
  have h1 : 0 ≤ p.lo ∧ p.lo ≤ 1000 ∧ p.hi ≤ 1000 ∧ (0 ≤ p.hi → p.lo ≤ p.hi) := by
    have := hn.1
    simp [numN, hop] at this
    exact ⟨this.1, this.2.1, this.2.2.1, by omega⟩
  have hR := M_mono s q
  have e : ∀ (k : Nat) (i j : Int), Pw (rowM s [q]) k i j ↔ Pw (q.M s) k i j := fun k i j => by rw [row_one_fun]
  refine ⟨fun hh i j h0 h2 => ?_, fun hh i j => ?_, h1⟩
  · rw [M_rep hop, hk, upto_all hR i j h0 h2]
    constructor
    · rintro ⟨k, h3, _, h4⟩; exact ⟨k, by omega, (e _ _ _).1 h4⟩
    · rintro ⟨k, h3, h4⟩; exact ⟨k, by omega, .inl hh, (e _ _ _).2 h4⟩
  · rw [M_rep hop, hk]
    constructor
    · rintro ⟨k, h3, h4, h5⟩; exact ⟨k, by omega, by omega, (e _ _ _).1 h5⟩
    · rintro ⟨k, h3, h4, h5⟩; exact ⟨k, by omega, by omega, (e _ _ _).2 h5⟩
end Go.Proofs.YtooaamepflkgnaaDoor
set_option maxRecDepth 100000
namespace Go.Proofs.YtooaamepflkgnaaDoor
open Go.RowKit

theorem infoBool : (Tryd.prog.info? 4).map (fun i => (i.zero, i.size, i.bytes)) = some (some (.bool false), 1, 1) := by kernel_rfl
theorem made_bools (n : Nat) : madeCells (Value.bool false).cells n = Places n (fun _ => false) := by
  apply Array.ext
  · simp [Places, size_madeCells]
  · intro i h1 h2
    simp [madeCells, Places, Value.cells, Nat.mod_one]
theorem make_bools {c : Int} {n : Nat} (hc : c = n) (hn : n ≤ 100000) (w : World) : (Instr.makeSlice 76 (.int .i64 c) (.int .i64 c)).run Tryd.prog w = .ok (.slice (some ⟨w.heap.size, 0, none⟩) n n) (w.alloc (.cells (Places n (fun _ => false)) 4)) := by
  subst hc
  obtain ⟨i, hi, hz, hs, hb⟩ := info_parts infoBool
  have := run_make (P := Tryd.prog) w 76 4 i _ Tryd.underlying76 hi hz .i64 .i64 n n (by omega) (Int.le_refl _) (by rw [hb]; omega) (by omega)
  rw [← made_bools]
  simpa [hs] using this
theorem Blk.new (w : World) (n : Nat) (f : Nat → Bool) : Blk (w.alloc (.cells (Places n f) 4)) w.heap.size n f := heap_alloc_new w _
/-- A row of its own, of so many places. -/
def Made (n N : Nat) (f : Nat → Bool) (w : World) (e : Ending) (w' : World) : Prop := ∃ r, e = .returned (.slice (some ⟨r, 0, none⟩) n n) ∧ Hid (N ≤ r) ∧ Hid (Blk w' r n f) ∧ Hid (Below N w w')
set_option maxHeartbeats 2000000 in
theorem reither_any (n a b : Nat) (f g : Nat → Bool) (w : World) (hn : n ≤ 1000) (ha : Blk w a n f) (hb : Blk w b n g) :
    Calls Tryd.prog 54 #[.slice (some ⟨a, 0, none⟩) n n, .slice (some ⟨b, 0, none⟩) n n] w (Made n w.heap.size (fun i => f i || g i) w) := by
  have hmk := make_bools (c := n) (n := n) rfl (by omega)
  obtain ⟨N, hN⟩ : ∃ N, w.heap.size = N := ⟨_, rfl⟩
  have HA := Lib.hid ha
  have HB := Lib.hid hb
  have hla := ha.lt
  have hlb := hb.lt
  have HNEW : Hid (Blk (w.alloc (.cells (Places n (fun _ => false)) 4)) N n (fun _ => false)) := by rw [← hN]; exact Lib.hid (Blk.new w n _)
  have HBW : Hid (Below N w (w.alloc (.cells (Places n (fun _ => false)) 4))) := by rw [← hN]; exact Lib.hid ((Below.refl _ _).alloc (Nat.le_refl _) _)
  clear ha hb
  rw [hN]
  go_enter Tryd.func54, Tryd.ntmps54
  go_wp2
  rw [hN] at *
  clear hmk
  go_loopw [6] (fun x wr => ∃ k : Nat, x = .int .i64 k ∧ k ≤ n ∧ Hid (Blk wr N n (fun i => decide (i < k) && (f i || g i))) ∧ Hid (Below N w wr)) (fun x _ => n - (intOf x).toNat)
  case atStart => exact ⟨0, rfl, Nat.zero_le _, Lib.hid (HNEW.out.congr fun i _ => by simp), HBW⟩
  case round =>
    obtain ⟨k, rfl, hk, HK, HBR⟩ := hrel
    by_cases hlt : k < n
    · have ca := (HA.out.old HBR.out (by omega)).cell hlt
      have cb := (HB.out.old HBR.out (by omega)).cell hlt
      have cn := HK.out.cell hlt
      have fn : wr.frozen? ⟨N, k, none⟩ = false := HK.out.frozen
      have HNX : ∀ v, (f k || g k) = v → Hid (Blk (wr.setCell ⟨N, k, none⟩ (.bool v)) N n (fun i => decide (i < k + 1) && (f i || g i))) := fun v hv => Lib.hid (HK.out.set (by simp [hv]) fun i _ hne => by
        have : i < k + 1 ↔ i < k := by omega
        simp only [this])
      have HBX : ∀ v, Hid (Below N w (wr.setCell ⟨N, k, none⟩ v)) := fun v => Lib.hid (HBR.out.setCell (p := ⟨N, k, none⟩) (Nat.le_refl N) v)
      have HNXT := HNX true
      have HNXF := HNX false
      clear HNX
      generalize f k = x at *
      generalize g k = y at *
      clear HK
      cases x <;> cases y
      all_goals
        go_wp2
        go_roundw
        case rel => exact ⟨k + 1, num_succ k, by omega, by first | exact HNXT rfl | exact HNXF rfl, HBX _⟩
        case measure => simp [intOf]; omega
    · obtain rfl : k = n := by omega
      have HF : Hid (Blk wr N k (fun i => f i || g i)) := Lib.hid (HK.out.congr fun i hi => by simp [hi])
      go_wp2
      exact bodyPost_ret (v := .slice (some ⟨N, 0, none⟩) k k) (by simp [results, Tryd.results54, go_sem, *]) rfl ⟨N, rfl, Lib.hid (Nat.le_refl _), HF, HBR⟩
end Go.Proofs.YtooaamepflkgnaaDoor
set_option maxRecDepth 100000
namespace Go.Proofs.YtooaamepflkgnaaDoor
open Go.RowKit

/-- What 'from' gives: the row of the places that are come to. -/
def FromP (s : ByteArray) (p : Pat) (n : Nat) (f : Nat → Bool) (N : Nat) (w : World) (e : Ending) (w' : World) : Prop := ∃ r g, e = .returned (.slice (some ⟨r, 0, none⟩) n n) ∧ Hid (N ≤ r) ∧ Hid (Blk w' r n g) ∧ Hid (Go s.size (p.M s) f g) ∧ Hid (Below N w w')
/-- .. for each row. -/
def FromC (s : ByteArray) (n : Nat) (p : Pat) : Prop := ∀ (ks : Value) (w : World) (b : Nat) (f : Nat → Bool), Kids w p.kids ks → Blk w b n f →
  Calls Tryd.prog 41 #[(.agg #[.int .i64 p.op, .int .u64 (wd p.set 0), .int .u64 (wd p.set 1), .int .u64 (wd p.set 2), .int .u64 (wd p.set 3), .int .i64 p.lo, .int .i64 p.hi, ks]), .string s, .slice (some ⟨b, 0, none⟩) n n] w (FromP s p n f w.heap.size w)
theorem box8 {w : World} {b : Nat} {p : Pat} {ks : Value} (h : w.heap[b]? = some (.cells #[.int .i64 p.op, .int .u64 (wd p.set 0), .int .u64 (wd p.set 1), .int .u64 (wd p.set 2), .int .u64 (wd p.set 3), .int .i64 p.lo, .int .i64 p.hi, ks] 28 (0, 0))) : w.cell? ⟨b, 0, none⟩ = some (.int .i64 p.op) ∧ w.cell? ⟨b, 1, none⟩ = some (.int .u64 (wd p.set 0)) ∧ w.cell? ⟨b, 2, none⟩ = some (.int .u64 (wd p.set 1)) ∧ w.cell? ⟨b, 3, none⟩ = some (.int .u64 (wd p.set 2)) ∧ w.cell? ⟨b, 4, none⟩ = some (.int .u64 (wd p.set 3)) ∧ w.cell? ⟨b, 5, none⟩ = some (.int .i64 p.lo) ∧ w.cell? ⟨b, 6, none⟩ = some (.int .i64 p.hi) ∧ w.cell? ⟨b, 7, none⟩ = some ks :=
  ⟨(cell_of_row _ _ 0 _ _ _ h).trans rfl, (cell_of_row _ _ 1 _ _ _ h).trans rfl, (cell_of_row _ _ 2 _ _ _ h).trans rfl, (cell_of_row _ _ 3 _ _ _ h).trans rfl, (cell_of_row _ _ 4 _ _ _ h).trans rfl, (cell_of_row _ _ 5 _ _ _ h).trans rfl, (cell_of_row _ _ 6 _ _ _ h).trans rfl, (cell_of_row _ _ 7 _ _ _ h).trans rfl⟩
theorem one_node {w : World} {q : Pat} {kids : List Pat} {a : Option Addr} {n c : Nat} (hk : Kids w kids (.slice a n c)) (h : kids = [q]) : ∃ b o, a = some ⟨b, o, none⟩ ∧ n = 1 ∧ NodeAt w q b o := by
  subst h
  obtain ⟨b, o, cap, e, hr⟩ := hk.row (by simp)
  cases e
  unfold RowAt at hr
  exact ⟨b, o, rfl, rfl, hr.1⟩
set_option maxHeartbeats 4000000 in
theorem often_any (s : ByteArray) (n : Nat) (p q : Pat) (hop : p.op = 3) (hq : p.kids = [q]) (hnum : p.num = true) (hn : s.size + 1 = n) (hsz : s.size ≤ 90) (H : FromC s n q)
    (ks : Value) (w : World) (b : Nat) (f : Nat → Bool) (hk : Kids w p.kids ks) (hb : Blk w b n f) :
    Calls Tryd.prog 55 #[(.agg #[.int .i64 p.op, .int .u64 (wd p.set 0), .int .u64 (wd p.set 1), .int .u64 (wd p.set 2), .int .u64 (wd p.set 3), .int .i64 p.lo, .int .i64 p.hi, ks]), .string s, .slice (some ⟨b, 0, none⟩) n n] w (FromP s p n f w.heap.size w) := by
  obtain ⟨hrep1, hrep2, hl0, hl1, hh1, hlh⟩ := rep_upto (s := s) hop hq hnum
  obtain ⟨a, cap, rfl⟩ := hk.len
  obtain ⟨kb, ko, ha, hlen, hnode⟩ := one_node hk hq
  rw [hlen] at hk ⊢
  subst ha
  obtain ⟨lo, hlo⟩ : ∃ lo : Nat, p.lo = (lo : Int) := ⟨p.lo.toNat, by omega⟩
  obtain ⟨hi, hhi⟩ : ∃ hi : Int, p.hi = hi := ⟨_, rfl⟩
  obtain ⟨N, hN⟩ : ∃ N, w.heap.size = N := ⟨_, rfl⟩
  obtain ⟨w1, hw1⟩ : ∃ w1, w1 = w.alloc (.cells #[.int .i64 p.op, .int .u64 (wd p.set 0), .int .u64 (wd p.set 1), .int .u64 (wd p.set 2), .int .u64 (wd p.set 3), .int .i64 p.lo, .int .i64 p.hi, .slice (some ⟨kb, ko, none⟩) 1 cap] 28) := ⟨_, rfl⟩
  have hb1 : Below N w w1 := by rw [hw1, ← hN]; exact (Below.refl _ _).alloc (Nat.le_refl _) _
  have hs1 : w1.heap.size = N + 1 := by rw [hw1]; simp [hN]
  have hbn : w1.heap[N]? = some (.cells #[.int .i64 p.op, .int .u64 (wd p.set 0), .int .u64 (wd p.set 1), .int .u64 (wd p.set 2), .int .u64 (wd p.set 3), .int .i64 p.lo, .int .i64 p.hi, .slice (some ⟨kb, ko, none⟩) 1 cap] 28 (0, 0)) := by rw [hw1, ← hN]; exact heap_alloc_new w _
  have HW1 := Lib.hid hw1
  have HBN := Lib.hid hbn
  have HB1 := Lib.hid hb1
  have hblt := hb.lt
  have HB := Lib.hid (hb.old hb1 (by omega))
  have HND := Lib.hid (show ∀ wr, Below (N + 1) w1 wr → NodeAt wr q kb ko from fun wr hbr => hnode.mono (Sub.of_below (w := w) (by rw [hN]; exact hb1.trans (hbr.mono (by omega)))))
  have HUP : Hid (∃ mo : Nat, (hi < 0 → (mo : Int) = s.size + 1) ∧ (0 ≤ hi → (mo : Int) = hi - lo) ∧ mo ≤ 1000 ∧ ∀ i j : Int, 0 ≤ i → i ≤ s.size → (p.M s i j ↔ Upto (q.M s) lo mo i j)) := Lib.hid (by
    subst hhi
    by_cases h : p.hi < 0
    · exact ⟨s.size + 1, fun _ => by omega, fun h2 => by omega, by omega, fun i j h1 h2 => by have := hrep1 h i j h1 h2; rwa [hlo] at this⟩
    · have h3 := hlh (by omega)
      exact ⟨(p.hi - p.lo).toNat, fun h2 => absurd h2 h, fun h2 => by omega, by omega, fun i j h1 h2 => by
        have := hrep2 (by omega) i j
        rw [this, hlo]
        rfl⟩)
  have HLO := Lib.hid hlo
  have HHI := Lib.hid hhi
  rw [hlo] at hl0 hl1 hlh
  rw [hhi] at hh1 hlh
  clear hrep1 hrep2 hk hb hbn hb1 hw1 hnode hop hlo hhi hlen hnum hq
  rw [hN]
  go_enter Tryd.func55, Tryd.ntmps55
  go_wp2_with (go_at_call 54; rw [← HW1.out]; refine (reither_any n b b f f w1 (by omega) HB.out HB.out).mono ?_; rintro e w2 ⟨r0, rfl, HR0, HBL0, HBW0⟩)
  rw [hs1] at HR0 HBW0
  go_loopw [7, 8] (fun v x wr => ∃ (k r : Nat) (g : Nat → Bool), x = .int .i64 k ∧ k ≤ lo ∧ v = .slice (some ⟨r, 0, none⟩) n n ∧ Hid (N ≤ r) ∧ Hid (Blk wr r n g) ∧ Hid (Go s.size (Pw (q.M s) k) f g) ∧ Hid (Below (N + 1) w1 wr)) (fun _ x _ => lo - (intOf x).toNat)
  case atStart => exact ⟨0, r0, _, rfl, Nat.zero_le _, rfl, Lib.hid (by have := HR0.out; omega), HBL0, Lib.hid (fun x hx => by
    have := Go.refl s.size (R := Pw (q.M s) 0) (fun i j => by rw [Pw]) f x hx
    simpa using this), HBW0⟩
  case round =>
    obtain ⟨k, r, g, rfl, hk, rfl, HRR, HBG, HG, HBW⟩ := hrel
    obtain ⟨c0, c1, c2, c3, c4, c5, c6, c7⟩ := box8 ((HBW.out.block N (by omega)).trans HBN.out)
    rw [HLO.out] at c5
    rw [HHI.out] at c6
    by_cases hlt : k < lo
    · obtain ⟨ks', hks, e0, e1, e2, e3, e4, e5, e6, e7⟩ := (HND.out wr HBW.out).load
      have HC := Lib.hid (H ks' wr r g hks HBG.out)
      clear hks
      go_wp2_with (go_at_call 41; refine HC.out.mono ?_; rintro e w3 ⟨r3, g3, rfl, HR3, HBL3, HG3, HBW3⟩)
      go_roundw
      case rel => exact ⟨k + 1, r3, g3, num_succ k, by omega, rfl, Lib.hid (by have := HR3.out; have := HBW.out.size; omega), HBL3, Lib.hid (HG.out.comp (fun i j h h0 h1 => Pw_mono (n := s.size) (M_mono s q) k i j h h0 h1) HG3.out (fun i j => Pw_succ _ _ _ _)), Lib.hid (HBW.out.trans (HBW3.out.mono (by have := HBW.out.size; omega)))⟩
      case measure => simp [intOf]; omega
    · obtain rfl : k = lo := by omega
      obtain ⟨mo, hm1, hm2, hmo, HM⟩ := HUP.out
      replace HM := Lib.hid HM
      clear HUP
      have HG0 : Hid (Go s.size (Upto (q.M s) k 0) f g) := Lib.hid (HG.out.iff fun i j _ _ => upto_zero _ _ _ _)
      by_cases hneg : hi < 0
      · have hd : decide (hi < 0) = true := by simpa using hneg
        go_wp2
        have hmm : (s.size : Int) + 1 = mo := (hm1 hneg).symm
        rw [hmm]
        clear hmm
        go_loopw [7, 9, 11] (fun v u x wr2 => ∃ (j r1 r2 : Nat) (g1 g2 : Nat → Bool), x = .int .i64 j ∧ j ≤ mo ∧ v = .slice (some ⟨r1, 0, none⟩) n n ∧ u = .slice (some ⟨r2, 0, none⟩) n n ∧ Hid (N ≤ r2) ∧ Hid (Blk wr2 r1 n g1) ∧ Hid (Blk wr2 r2 n g2) ∧ Hid (Go s.size (Pw (q.M s) (k + j)) f g1) ∧ Hid (Go s.size (Upto (q.M s) k j) f g2) ∧ Hid (Below (N + 1) w1 wr2)) (fun _ _ x _ => mo - (intOf x).toNat)
        case atStart => exact ⟨0, r, r, g, g, rfl, Nat.zero_le _, rfl, rfl, HRR, HBG, HBG, HG, HG0, HBW⟩
        case round =>
          clear c0 c1 c2 c3 c4 c5 c6 c7
          obtain ⟨j, r1, r2, g1, g2, rfl, hj, rfl, rfl, HXR, HX1, HX2, HGA, HGB, HBX⟩ := hrel
          obtain ⟨c0, c1, c2, c3, c4, c5, c6, c7⟩ := box8 ((HBX.out.block N (by omega)).trans HBN.out)
          by_cases hjl : j < mo
          · have hd2 : decide ((j : Int) < mo) = true := by simpa using hjl
            clear hd hm1 hm2
            obtain ⟨ks', hks, e0, e1, e2, e3, e4, e5, e6, e7⟩ := (HND.out _ HBX.out).load
            have HC := Lib.hid (H ks' _ r1 g1 hks HX1.out)
            clear hks
            go_wp2_with (first
              | (go_at_call 41; refine HC.out.mono ?_; rintro e w3 ⟨r3, g3, rfl, HR3, HBL3, HG3, HBW3⟩; have HX4 := Lib.hid (HX2.out.below HBW3.out))
              | (go_at_call 54; refine (reither_any n r2 r3 g2 g3 w3 (by omega) HX4.out HBL3.out).mono ?_; rintro e w4 ⟨r4, rfl, HR4, HBL4, HBW4⟩))
            go_roundw
            case rel =>
              have hg := HGA.out.comp (fun i j h h0 h1 => Pw_mono (n := s.size) (M_mono s q) _ i j h h0 h1) HG3.out (fun i j => Pw_succ _ _ _ _)
              have hbx := HBX.out.trans (HBW3.out.mono (by have := HBX.out.size; omega))
              exact ⟨j + 1, r3, r4, g3, _, num_succ j, by omega, rfl, rfl, Lib.hid (by have := HR4.out; have := hbx.size; omega), Lib.hid (HBL3.out.below HBW4.out), HBL4, Lib.hid hg, Lib.hid (HGB.out.or hg (fun i j => upto_succ _ _ _ _ _)), Lib.hid (hbx.trans (HBW4.out.mono (by have := hbx.size; omega)))⟩
            case measure => simp [intOf]; omega
          · obtain rfl : j = mo := by omega
            have hd2 : decide ((j : Int) < j) = false := by simp
            clear hd hm1 hm2
            go_wp2
            exact bodyPost_ret (v := .slice (some ⟨r2, 0, none⟩) n n) (by simp [results, Tryd.results55, go_sem, *]) rfl ⟨r2, g2, rfl, HXR, HX2, Lib.hid (HGB.out.iff fun i j h0 h1 => HM.out i j h0 h1), Lib.hid (HB1.out.trans (HBX.out.mono (by omega)))⟩
      · have hd : decide (hi < 0) = false := by simpa using hneg
        have hmm : hi - (k : Int) = mo := (hm2 (by omega)).symm
        go_wp2
        clear hmm
        go_loopw [7, 9, 11] (fun v u x wr2 => ∃ (j r1 r2 : Nat) (g1 g2 : Nat → Bool), x = .int .i64 j ∧ j ≤ mo ∧ v = .slice (some ⟨r1, 0, none⟩) n n ∧ u = .slice (some ⟨r2, 0, none⟩) n n ∧ Hid (N ≤ r2) ∧ Hid (Blk wr2 r1 n g1) ∧ Hid (Blk wr2 r2 n g2) ∧ Hid (Go s.size (Pw (q.M s) (k + j)) f g1) ∧ Hid (Go s.size (Upto (q.M s) k j) f g2) ∧ Hid (Below (N + 1) w1 wr2)) (fun _ _ x _ => mo - (intOf x).toNat)
        case atStart => exact ⟨0, r, r, g, g, rfl, Nat.zero_le _, rfl, rfl, HRR, HBG, HBG, HG, HG0, HBW⟩
        case round =>
          clear c0 c1 c2 c3 c4 c5 c6 c7
          obtain ⟨j, r1, r2, g1, g2, rfl, hj, rfl, rfl, HXR, HX1, HX2, HGA, HGB, HBX⟩ := hrel
          obtain ⟨c0, c1, c2, c3, c4, c5, c6, c7⟩ := box8 ((HBX.out.block N (by omega)).trans HBN.out)
          by_cases hjl : j < mo
          · have hd2 : decide ((j : Int) < mo) = true := by simpa using hjl
            clear hd hm1 hm2
            obtain ⟨ks', hks, e0, e1, e2, e3, e4, e5, e6, e7⟩ := (HND.out _ HBX.out).load
            have HC := Lib.hid (H ks' _ r1 g1 hks HX1.out)
            clear hks
            go_wp2_with (first
              | (go_at_call 41; refine HC.out.mono ?_; rintro e w3 ⟨r3, g3, rfl, HR3, HBL3, HG3, HBW3⟩; have HX4 := Lib.hid (HX2.out.below HBW3.out))
              | (go_at_call 54; refine (reither_any n r2 r3 g2 g3 w3 (by omega) HX4.out HBL3.out).mono ?_; rintro e w4 ⟨r4, rfl, HR4, HBL4, HBW4⟩))
            go_roundw
            case rel =>
              have hg := HGA.out.comp (fun i j h h0 h1 => Pw_mono (n := s.size) (M_mono s q) _ i j h h0 h1) HG3.out (fun i j => Pw_succ _ _ _ _)
              have hbx := HBX.out.trans (HBW3.out.mono (by have := HBX.out.size; omega))
              exact ⟨j + 1, r3, r4, g3, _, num_succ j, by omega, rfl, rfl, Lib.hid (by have := HR4.out; have := hbx.size; omega), Lib.hid (HBL3.out.below HBW4.out), HBL4, Lib.hid hg, Lib.hid (HGB.out.or hg (fun i j => upto_succ _ _ _ _ _)), Lib.hid (hbx.trans (HBW4.out.mono (by have := hbx.size; omega)))⟩
            case measure => simp [intOf]; omega
          · obtain rfl : j = mo := by omega
            have hd2 : decide ((j : Int) < j) = false := by simp
            clear hd hm1 hm2
            go_wp2
            exact bodyPost_ret (v := .slice (some ⟨r2, 0, none⟩) n n) (by simp [results, Tryd.results55, go_sem, *]) rfl ⟨r2, g2, rfl, HXR, HX2, Lib.hid (HGB.out.iff fun i j h0 h1 => HM.out i j h0 h1), Lib.hid (HB1.out.trans (HBX.out.mono (by omega)))⟩
end Go.Proofs.YtooaamepflkgnaaDoor
set_option maxRecDepth 100000
namespace Go.Proofs.YtooaamepflkgnaaDoor
open Go.RowKit

/-- A slice reads as runs, which lie in no block of X. -/
def Rn (w : World) (X : Nat → Prop) (v : Value) (L : List (Int × Int)) : Prop :=
  (v = .slice none 0 0 ∧ L = []) ∨ ∃ b o c, v = .slice (some ⟨b, o, none⟩) L.length c ∧ L.length ≤ c ∧ (L ≠ [] → ¬ X b) ∧ ∀ i (h : i < L.length), w.cell? ⟨b, o + i * 2, none⟩ = some (.int .i64 L[i].1) ∧ w.cell? ⟨b, o + i * 2 + 1, none⟩ = some (.int .i64 L[i].2)
theorem ne_of_lt {L : List (Int × Int)} {i : Nat} (h : i < L.length) : L ≠ [] := by rintro rfl; simp at h
/-- What does not lie in X stays. -/
structure Out (X : Nat → Prop) (w w' : World) : Prop where
  os : w'.os = w.os
  tape : w'.tape = w.tape
  output : w'.output = w.output
  size : w.heap.size ≤ w'.heap.size
  block : ∀ k, k < w.heap.size → ¬ X k → w'.heap[k]? = w.heap[k]?
theorem Out.refl (X : Nat → Prop) (w : World) : Out X w w := ⟨rfl, rfl, rfl, Nat.le_refl _, fun _ _ _ => rfl⟩
theorem Out.trans {X : Nat → Prop} {a b c : World} (h : Out X a b) (k : Out X b c) : Out X a c :=
  ⟨k.os.trans h.os, k.tape.trans h.tape, k.output.trans h.output, Nat.le_trans h.size k.size, fun i hi hx => (k.block i (Nat.lt_of_lt_of_le hi h.size) hx).trans (h.block i hi hx)⟩
theorem Out.mono {X Y : Nat → Prop} {a b : World} (h : Out X a b) (hxy : ∀ k, k < a.heap.size → X k → Y k) : Out Y a b :=
  ⟨h.os, h.tape, h.output, h.size, fun i hi hy => h.block i hi fun hx => hy (hxy i hi hx)⟩
theorem Out.below {w w' : World} {X : Nat → Prop} (h : Below w.heap.size w w') : Out X w w' := ⟨h.os, h.tape, h.output, h.size, fun k hk _ => h.block k hk⟩
theorem Out.to_below {w w' : World} {X : Nat → Prop} {n : Nat} (h : Out X w w') (hX : ∀ k, k < w.heap.size → X k → n ≤ k) (hn : n ≤ w.heap.size) : Below n w w' :=
  ⟨h.os, h.tape, h.output, h.size, fun k hk => h.block k (by omega) fun hx => by have := hX k (by omega) hx; omega⟩
theorem Out.grown {w w' : World} {x : Option Nat} {X : Nat → Prop} (h : w.grownBy w' x) (hx : ∀ b, x = some b → X b) : Out X w w' :=
  ⟨h.os, h.tape, h.output, h.size, fun k hk hn => h.block k hk fun e => hn (hx k e.symm)⟩
theorem Out.set {X : Nat → Prop} {b : Nat} (w : World) (j : Nat) (v : Value) (hb : X b) : Out X w (w.setCell ⟨b, j, none⟩ v) := by
  have h : Below b w (w.setCell ⟨b, j, none⟩ v) := (Below.refl _ _).setCell (p := ⟨b, j, none⟩) (Nat.le_refl _) v
  exact ⟨h.os, h.tape, h.output, h.size, fun k _ hn => Below.heap_setCell _ _ _ _ (by rintro rfl; exact hn hb)⟩
theorem Out.cell {X : Nat → Prop} {w w' : World} (h : Out X w w') {a : Addr} {v : Value} (hc : w.cell? a = some v) (hn : ¬ X a.block) : w'.cell? a = some v :=
  (World.cell?_of_block (h.block a.block (cell_lt hc) hn)).trans hc
theorem Rn.nil (w : World) (X : Nat → Prop) : Rn w X (.slice none 0 0) [] := .inl ⟨rfl, rfl⟩
theorem Rn.out {w w' : World} {X Y : Nat → Prop} {v : Value} {L : List (Int × Int)} (h : Rn w X v L) (ho : Out Y w w') (hxy : ∀ k, k < w.heap.size → Y k → X k) : Rn w' X v L := by
  rcases h with h | ⟨b, o, c, e, hc, hn, hr⟩
  · exact .inl h
  · exact .inr ⟨b, o, c, e, hc, hn, fun i hi => ⟨ho.cell (hr i hi).1 fun hy => hn (ne_of_lt hi) (hxy _ (cell_lt (hr i hi).1) hy), ho.cell (hr i hi).2 fun hy => hn (ne_of_lt hi) (hxy _ (cell_lt (hr i hi).1) hy)⟩⟩
theorem Rn.below {w w' : World} {X : Nat → Prop} {v : Value} {L : List (Int × Int)} (h : Rn w X v L) (hb : Below w.heap.size w w') : Rn w' X v L :=
  h.out (Out.below (X := fun _ => False) hb) fun _ _ h => h.elim
theorem Rn.weak {w : World} {X Y : Nat → Prop} {v : Value} {L : List (Int × Int)} (h : Rn w X v L) (hxy : ∀ k, k < w.heap.size → Y k → X k) : Rn w Y v L := by
  rcases h with h | ⟨b, o, c, e, hc, hn, hr⟩
  · exact .inl h
  · exact .inr ⟨b, o, c, e, hc, fun h0 hy => hn h0 (hxy _ (cell_lt (hr 0 (List.length_pos_iff.2 h0)).1) hy), hr⟩
theorem Rn.len {w : World} {X : Nat → Prop} {v : Value} {L : List (Int × Int)} (h : Rn w X v L) : ∃ a c, v = .slice a L.length c := by
  rcases h with ⟨rfl, rfl⟩ | ⟨b, o, c, rfl, _⟩
  · exact ⟨_, _, rfl⟩
  · exact ⟨_, _, rfl⟩
theorem Rn.row {w : World} {X : Nat → Prop} {v : Value} {L : List (Int × Int)} (h : Rn w X v L) (h0 : 0 < L.length) : ∃ b o c, v = .slice (some ⟨b, o, none⟩) L.length c ∧ L.length ≤ c ∧ ¬ X b ∧ ∀ i (h : i < L.length), w.cell? ⟨b, o + i * 2, none⟩ = some (.int .i64 L[i].1) ∧ w.cell? ⟨b, o + i * 2 + 1, none⟩ = some (.int .i64 L[i].2) := by
  rcases h with ⟨_, rfl⟩ | ⟨b, o, c, e, hc, hn, hr⟩
  · simp at h0
  · exact ⟨b, o, c, e, hc, hn (ne_of_lt h0), hr⟩
theorem Rn.drew {w : World} {X : Nat → Prop} {v : Value} {L : List (Int × Int)} (h : Rn w X v L) : Rn w.drew X v L := h
/-- Runs, cell by cell. -/
def flatR (L : List (Int × Int)) : List Value := L.flatMap (fun r => [Value.int .i64 r.1, Value.int .i64 r.2])
theorem flatR_length (L : List (Int × Int)) : (flatR L).length = L.length * 2 := by
  induction L with
  | nil => rfl
  | cons q l ih => simp [flatR] at ih ⊢; omega
theorem flatR_append (A B : List (Int × Int)) : flatR (A ++ B) = flatR A ++ flatR B := by simp [flatR]
theorem flatR_one (L : List (Int × Int)) : ∀ v ∈ flatR L, v.oneCell' = true := by
  intro v hv
  simp only [flatR, List.mem_flatMap] at hv
  obtain ⟨r, _, hv⟩ := hv
  simp at hv
  rcases hv with rfl | rfl <;> rfl
theorem flatR_take (L : List (Int × Int)) (k : Nat) : (flatR L).take (k * 2) = flatR (L.take k) := by
  induction L generalizing k with
  | nil => simp [flatR]
  | cons r L ih =>
    cases k with
    | zero => simp [flatR]
    | succ k =>
      have : flatR (r :: L) = [Value.int .i64 r.1, Value.int .i64 r.2] ++ flatR L := rfl
      rw [this, List.take_succ_cons, show flatR (r :: L.take k) = [Value.int .i64 r.1, Value.int .i64 r.2] ++ flatR (L.take k) from rfl, show (k + 1) * 2 = [Value.int .i64 r.1, Value.int .i64 r.2].length + k * 2 by simp; omega, List.take_length_add_append, ih]
theorem flatR_drop (L : List (Int × Int)) (k : Nat) : (flatR L).drop (k * 2) = flatR (L.drop k) := by
  induction L generalizing k with
  | nil => simp [flatR]
  | cons r L ih =>
    cases k with
    | zero => simp
    | succ k =>
      have : flatR (r :: L) = [Value.int .i64 r.1, Value.int .i64 r.2] ++ flatR L := rfl
      rw [this, List.drop_succ_cons, show (k + 1) * 2 = [Value.int .i64 r.1, Value.int .i64 r.2].length + k * 2 by simp; omega, List.drop_length_add_append, ih]
theorem flatR_at (L : List (Int × Int)) : ∀ i (h : i < L.length), (flatR L)[i * 2]? = some (.int .i64 L[i].1) ∧ (flatR L)[i * 2 + 1]? = some (.int .i64 L[i].2) := by
  induction L with
  | nil => intro i h; simp at h
  | cons r L ih =>
    intro i h
    have e : flatR (r :: L) = [Value.int .i64 r.1, Value.int .i64 r.2] ++ flatR L := rfl
    cases i with
    | zero => rw [e]; simp
    | succ i =>
      have := ih i (by simpa using h)
      rw [e, List.getElem?_append_right (by simp; omega), List.getElem?_append_right (by simp; omega)]
      simp only [List.length_cons, List.length_nil, List.getElem_cons_succ]
      rw [show (i + 1) * 2 - (0 + 1 + 1) = i * 2 by omega, show (i + 1) * 2 + 1 - (0 + 1 + 1) = i * 2 + 1 by omega]
      exact this
/-- A row of runs of one's own. -/
def RRow (w : World) (base : Nat) (v : Value) (L : List (Int × Int)) : Prop := w.ownsRow base 75 2 v L.length (flatR L)
theorem RRow.rn {w : World} {base : Nat} {v : Value} {L : List (Int × Int)} (h : RRow w base v L) : Rn w (fun k => k < base) v L := by
  rcases h.2 with ⟨rfl, h0⟩ | ⟨g, cap, cur, rfl, hb, hg, hnc, _⟩
  · exact .inl ⟨rfl, List.length_eq_zero_iff.1 h0⟩
  · refine .inr ⟨g, 0, cap, rfl, hnc, fun _ => by omega, fun i hi => ?_⟩
    have := flatR_at L i hi
    have h1 := World.ownsRow.cells h (g := g) rfl (i * 2) _ this.1
    have h2 := World.ownsRow.cells h (g := g) rfl (i * 2 + 1) _ this.2
    rw [Addr.add_lit] at h1 h2
    rw [Nat.add_assoc]
    exact ⟨h1, h2⟩
theorem RRow.nil (w : World) (base : Nat) : RRow w base (.slice none 0 0) [] := World.ownsRow_nil _ _ _ _
theorem RRow.form {w : World} {base : Nat} {v : Value} {L : List (Int × Int)} (h : RRow w base v L) : ∃ a c, v = .slice a L.length c ∧ L.length ≤ c := by
  rcases h.2 with ⟨rfl, h0⟩ | ⟨g, cap, cur, rfl, _, _, hc, _⟩
  · exact ⟨_, _, by rw [h0], by omega⟩
  · exact ⟨_, _, rfl, hc⟩
/-- sort.Search over a function that answers p, false up to k, true from there on. -/
theorem half_lt {lo hi : Nat} (h : lo < hi) : lo ≤ (lo + hi) / 2 ∧ (lo + hi) / 2 < hi := by omega
set_option maxHeartbeats 2000000 in
theorem search_any (n k : Nat) (cb : Array Value) (p : Nat → Bool) (w : World) (hn : n < 1000000) (hk : k ≤ n) (h1 : ∀ t, t < k → p t = false) (h2 : ∀ t, k ≤ t → t < n → p t = true)
    (hf : ∀ W i, Below w.heap.size w W → i < n → Calls Tryd.prog 73 (#[.int .i64 i] ++ cb) W fun e W' => e = .returned (.bool (p i)) ∧ Below W.heap.size W W') :
    Calls Tryd.prog 72 #[.int .i64 n, .func (.func 73) #[] cb] w fun e w' => e = .returned (.int .i64 k) ∧ Below w.heap.size w w' := by
  have HF := Lib.hid hf
  have H1 := Lib.hid h1
  have H2 := Lib.hid h2
  clear hf h1 h2
  have mixed : Tryd.prog.follows .mixedOrders = true := by kernel_rfl
  go_enter Tryd.func72, Tryd.ntmps72
  go_wp2
  go_loopw [5, 6] (fun a b wr => ∃ lo hi : Nat, a = .int .i64 lo ∧ b = .int .i64 hi ∧ lo ≤ k ∧ k ≤ hi ∧ hi ≤ n ∧ Below w.heap.size w wr) (fun a b _ => (intOf b).toNat - (intOf a).toNat)
  case atStart => exact ⟨0, n, rfl, rfl, Nat.zero_le _, hk, Nat.le_refl _, Below.refl _ _⟩
  case round =>
    obtain ⟨lo, hi, rfl, rfl, hlk, hkh, hhn, hb⟩ := hrel
    by_cases hlt : lo < hi
    · obtain ⟨m, hm⟩ : ∃ m, m = (lo + hi) / 2 := ⟨_, rfl⟩
      have hm1 : lo ≤ m ∧ m < hi := by rw [hm]; exact half_lt hlt
      have hmi : ((lo : Int) + (hi : Int)) / 2 = (m : Int) := by omega
      clear hm
      rcases Nat.lt_or_ge m k with hmk | hmk
      · have hp := H1.out m hmk
        go_wp2_with (go_at_call 73; refine (HF.out _ m hb (by omega)).mono ?_; rw [hp]; rintro e w2 ⟨rfl, hb2⟩)
        go_roundw
        case rel => exact ⟨m + 1, hi, num_succ m, rfl, by omega, hkh, hhn, hb.trans (hb2.mono hb.size)⟩
        case measure => simp [intOf]; omega
      · have hp := H2.out m hmk (by omega)
        go_wp2_with (go_at_call 73; refine (HF.out _ m hb (by omega)).mono ?_; rw [hp]; rintro e w2 ⟨rfl, hb2⟩)
        go_roundw
        case rel => exact ⟨lo, m, rfl, rfl, hlk, hmk, by omega, hb.trans (hb2.mono hb.size)⟩
        case measure => simp [intOf]; omega
    · obtain rfl : lo = k := by omega
      go_wp2
      go_ret
      exact ⟨rfl, hb⟩
end Go.Proofs.YtooaamepflkgnaaDoor
set_option maxRecDepth 100000
namespace Go.Proofs.YtooaamepflkgnaaDoor
open Go.RowKit

set_option maxHeartbeats 4000000 in
/-- Between, with room. -/
theorem insert_room (base n i g cap : Nat) (xs : List Value) (cur : List Value) (vb : Nat) (x y : Value) (w : World) (hi : i < n) (hn : n < 1000000) (hxl : xs.length = n * 2) (hbg : base ≤ g)
    (hg : w.heap[g]? = some (.cells cur.toArray 75 (0, 0))) (hnc : n + 1 ≤ cap) (hcm : cap ≤ maxLen) (hcl : cur.length = cap * 2) (hct : cur.take (n * 2) = xs)
    (hvb : w.heap[vb]? = some (.cells #[x, y] 75 (0, 0))) (hne : vb ≠ g) (hx : x.oneCell' = true) (hy : y.oneCell' = true) (hxs : ∀ v ∈ xs, v.oneCell' = true) :
    Calls Tryd.prog 74 #[.slice (some ⟨g, 0, none⟩) n cap, .int .i64 i, .slice (some ⟨vb, 0, none⟩) 1 1] w (Put base (.slice (some ⟨g, 0, none⟩) n cap) (n + 1) (xs.take (i * 2) ++ ([x, y] ++ xs.drop (i * 2))) w) := by
  have hcm' := hcm
  unfold maxLen at hcm'
  have hov : ∀ o lb cb, (callFunc 75 #[.slice (some ⟨vb, 0, none⟩) 1 1, .slice (some ⟨g, o, none⟩) lb cb]).run Tryd.prog w = .ok (.value (.bool false)) w := fun o lb cb => by
    rw [run_callFunc_extern Tryd.func75 (by kernel_rfl) (by kernel_rfl) (by kernel_rfl) (e := Extern.SlicesOverlaps.overlaps #[59, 59] #[4]) (by kernel_rfl),
      Lib.run_overlaps_apart w 59 4 75 Tryd.underlying59 2 sizeOfRun ⟨vb, 0, none⟩ ⟨g, o, none⟩ 1 1 lb cb hne _ _ _ _ (shape_row hvb) (shape_row hg) (by simp [hcl]; omega) (frozen_row hvb) (frozen_row hvb)]
    rfl
  have hz1 : ¬ ((i : Int) = (n : Int)) := by omega
  have hw1 : IntKind.i64.wrap ((i : Int) + 1) = (i : Int) + 1 := by rw [IntKind.wrap_i64]; omega
  have hb1 : (0 : Int) ≤ (i : Int) + 1 := by omega
  have hin : i ≤ n := by omega
  have htn : ((i : Int) + 1).toNat = i + 1 := by omega
  have hb2 : ¬ (cap = i + 1) := by omega
  have hb3 : (i : Int) ≤ (n : Int) + 1 := by omega
  have hb4 : ¬ (cap = i) := by omega
  obtain ⟨A, hA⟩ : ∃ A, A = xs.take (i * 2) := ⟨_, rfl⟩
  obtain ⟨B, hB⟩ : ∃ B, B = xs.drop (i * 2) := ⟨_, rfl⟩
  obtain ⟨Z, hZ⟩ : ∃ Z, Z = cur.drop (n * 2) := ⟨_, rfl⟩
  have hAB : A ++ B = xs := by rw [hA, hB, List.take_append_drop]
  have hAl : A.length = i * 2 := by rw [hA, List.length_take]; omega
  have hBl : B.length = (n - i) * 2 := by rw [hB, List.length_drop]; omega
  have hZl : Z.length = (cap - n) * 2 := by rw [hZ, List.length_drop]; omega
  have hcur : cur = A ++ (B ++ Z) := by rw [← List.append_assoc, hAB, ← hct, hZ, List.take_append_drop]
  have hB1 : ∀ v ∈ B, v.oneCell' = true := fun v hv => hxs v (by rw [← hAB]; exact List.mem_append_right _ hv)
  have hBs : ∀ j v, B[j]? = some v → w.cell? ((⟨g, i * 2, none⟩ : Addr).add j) = some v := fun j v hj => by
    rw [Addr.add_lit, cell_of_row w g _ _ _ _ hg]
    have hjl : j < B.length := (List.getElem?_eq_some_iff.1 hj).1
    simp only [List.getElem?_toArray]
    rw [hcur, List.getElem?_append_right (by omega), hAl, Nat.add_sub_cancel_left, List.getElem?_append_left hjl]
    exact hj
  rw [← hA, ← hB]
  have HA := Lib.hid hAl
  have HB := Lib.hid hBl
  have HZ := Lib.hid hZl
  have HC := Lib.hid hcur
  clear hAl hBl hZl hA hB hZ hAB
  have hvl : vb < w.heap.size := lt_of_block hvb
  have mixed : Tryd.prog.follows .mixedOrders = true := by kernel_rfl
  go_enter Tryd.func74, Tryd.ntmps74
  go_wp2_with (simp only [hov])
  go_region_law_o (refine step_copy2 rfl _ _ 59 59 rfl 75 Tryd.underlying59 sizeRun (some ⟨g, (i + 1) * 2, none⟩) (some ⟨g, i * 2, none⟩) (n - i) (cap - (i + 1)) (n + 1 - i) (cap - i) (by simp [Act.eval, Act.put]) (by simp [Act.eval, Act.put]) g ((i + 1) * 2) cur _ hg B (by rw [HB.out]; simp only [Nat.min_def]; split <;> omega) (fun _ => ⟨rfl, _, rfl, hBs⟩) (by rw [HB.out, hcl]; omega) hB1 w (grown_drew (grown_id w _)) ?_; intro w1 hg1 hb1)
  have hvb1 : w1.heap[vb]? = some (.cells #[x, y] 75 (0, 0)) := (hb1.block vb hvl (by simp; exact hne)).trans hvb
  have hl1 : (splice cur ((i + 1) * 2) B).length = cap * 2 := (length_splice _ _ _ (by rw [HB.out, hcl]; omega)).trans hcl
  obtain ⟨w2, hrun2, hg2, hb2⟩ := run_copy2 (P := Tryd.prog) (w := w1) (dT := 59) (sT := 59) (ty := 3) Tryd.underlying59 sizeRun (some ⟨g, i * 2, none⟩) (some ⟨vb, 0, none⟩) (n + 1 - i) (cap - i) 1 1 g (i * 2) (splice cur ((i + 1) * 2) B) _ hg1.out [x, y] (by simp only [Nat.min_def, List.length_cons, List.length_nil]; split <;> omega) (fun _ => ⟨rfl, _, rfl, two_cells hvb1⟩) (by rw [hl1]; simp; omega) (by simp [hx, hy]) w hb1
  go_wp2
  go_ret
  refine ⟨_, rfl, grown_row_own hg2.out hbg hnc hcm ((length_splice _ _ _ (by rw [hl1]; simp; omega)).trans hl1) ?_, hb2, fun g' e => .inl e⟩
  have h := splice_two A B Z x y (by rw [HZ.out]; omega)
  rw [HA.out, HB.out] at h
  rw [HC.out, show (i + 1) * 2 = i * 2 + 2 by omega, show (n + 1) * 2 = i * 2 + 2 + (n - i) * 2 by omega]
  exact h
end Go.Proofs.YtooaamepflkgnaaDoor
set_option maxRecDepth 100000
namespace Go.Proofs.YtooaamepflkgnaaDoor
open Go.RowKit

theorem splice_grow (A B Z : List Value) (x y : Value) (_ : 2 + B.length ≤ Z.length) :
    (splice (splice (A ++ Z) A.length [x, y]) (A.length + 2) B).take (A.length + 2 + B.length) = A ++ ([x, y] ++ B) := by
  have e1 : splice (A ++ Z) A.length [x, y] = (A ++ [x, y]) ++ Z.drop 2 := by
    unfold splice
    rw [List.take_left, List.append_assoc]
    congr 2
    show (A ++ Z).drop (A.length + 2) = _
    rw [List.drop_length_add_append]
  have l1 : (A ++ [x, y]).length = A.length + 2 := by simp
  have e2 : splice ((A ++ [x, y]) ++ Z.drop 2) (A.length + 2) B = (A ++ [x, y]) ++ (B ++ ((A ++ [x, y]) ++ Z.drop 2).drop (A.length + 2 + B.length)) := by
    unfold splice
    rw [← l1, List.take_left]
  rw [e1, e2, ← l1, List.take_length_add_append, List.take_left, List.append_assoc]
theorem grown_any {w w' : World} {x : Option Nat} (h : w.grownBy w' (some w.heap.size)) : w.grownBy w' x := ⟨h.os, h.tape, h.output, h.size, fun k hk _ => h.block k hk (fun e => by cases e; omega)⟩
set_option maxHeartbeats 4000000 in
/-- Between, without room. -/
theorem insert_grow (base n i g : Nat) (xs : List Value) (cur : List Value) (vb : Nat) (x y : Value) (w : World) (hi : i < n) (hn : n < 1000000) (hxl : xs.length = n * 2) (hbase : base ≤ w.heap.size)
    (hg : w.heap[g]? = some (.cells cur.toArray 75 (0, 0))) (hct : cur.take (n * 2) = xs)
    (hvb : w.heap[vb]? = some (.cells #[x, y] 75 (0, 0))) (hx : x.oneCell' = true) (hy : y.oneCell' = true) (hxs : ∀ v ∈ xs, v.oneCell' = true) :
    Calls Tryd.prog 74 #[.slice (some ⟨g, 0, none⟩) n n, .int .i64 i, .slice (some ⟨vb, 0, none⟩) 1 1] w (Put base (.slice (some ⟨g, 0, none⟩) n n) (n + 1) (xs.take (i * 2) ++ ([x, y] ++ xs.drop (i * 2))) w) := by
  obtain ⟨i0, hi0, hz0, hz1, hz2⟩ := info_parts infoRun
  have hlt : g < w.heap.size := lt_of_block hg
  have hvl : vb < w.heap.size := lt_of_block hvb
  obtain ⟨A, hA⟩ : ∃ A, A = xs.take (i * 2) := ⟨_, rfl⟩
  obtain ⟨B, hB⟩ : ∃ B, B = xs.drop (i * 2) := ⟨_, rfl⟩
  have hAB : A ++ B = xs := by rw [hA, hB, List.take_append_drop]
  have hAl : A.length = i * 2 := by rw [hA, List.length_take]; omega
  have hBl : B.length = (n - i) * 2 := by rw [hB, List.length_drop]; omega
  have hB1 : ∀ v ∈ B, v.oneCell' = true := fun v hv => hxs v (by rw [← hAB]; exact List.mem_append_right _ hv)
  have hall : ∀ j v, xs[j]? = some v → w.cell? ⟨g, j, none⟩ = some v := fun j v hj => by
    rw [cell_of_row w g _ _ _ _ hg]
    rw [← hct, List.getElem?_take] at hj
    split at hj
    · simpa using hj
    · cases hj
  have hAs : ∀ j v, A[j]? = some v → w.cell? ((⟨g, 0, none⟩ : Addr).add j) = some v := fun j v hj => by
    rw [Addr.add_lit, Nat.zero_add]
    refine hall j v ?_
    rw [← hAB, List.getElem?_append_left (List.getElem?_eq_some_iff.1 hj).1]; exact hj
  have hBs : ∀ j v, B[j]? = some v → w.cell? ((⟨g, i * 2, none⟩ : Addr).add j) = some v := fun j v hj => by
    rw [Addr.add_lit]
    refine hall _ v ?_
    rw [← hAB, List.getElem?_append_right (by omega), hAl, Nat.add_sub_cancel_left]; exact hj
  rw [← hA, ← hB]
  have hold : (Builtin.firstCells i0.size i (.slice (some ⟨g, 0, none⟩) i n)).run Tryd.prog w.drew = .ok A.toArray w.drew := by
    rw [hz1]
    exact run_firstCells_some w.drew 2 i ⟨g, 0, none⟩ i n A hAl hAs
  have hkk : (n : Int) + 1 - (i : Int) = ((n + 1 - i : Nat) : Int) := by omega
  have hik : i + (n + 1 - i) = n + 1 := by omega
  obtain ⟨G, hG⟩ : ∃ G, G = grownCap w (n + 1) n 75 := ⟨_, rfl⟩
  obtain ⟨ROW, hROW⟩ : ∃ ROW : Array Value, ROW = A.toArray ++ Builtin.zeroCells (Value.agg #[.int .i64 0, .int .i64 0]).cells (n + 1 - i) ++ Builtin.zeroCells (Value.agg #[.int .i64 0, .int .i64 0]).cells (G - (n + 1)) := ⟨_, rfl⟩
  obtain ⟨W1, hW1⟩ : ∃ W1, W1 = w.drew.alloc (.cells ROW 75) := ⟨_, rfl⟩
  have hrz : ∀ ty, (Builtin.append_ #[59, 3] ty #[.slice (some ⟨g, 0, none⟩) i n,   .int .i64 ((n + 1 - i : Nat) : Int)]).run Tryd.prog w = .ok (.slice (some ⟨w.heap.size, 0, none⟩) (n + 1) G) W1 := fun ty => by
    have h := Lib.run_append_grow_zeros w 59 3 ty 75 i0 _ .i64 .i64 Tryd.underlying59 Tryd.underlying3 hi0 hz0 (some ⟨g, 0, none⟩) i n A hold (n + 1 - i) (by omega) (by omega) (by omega) (by omega) (by rw [hz2]; omega) (by rw [hz2, hik]; exact growslice_fits (by omega) (by omega))
    rw [hik, ← hG] at h
    rw [hW1, hROW]
    exact h
  have hGn : n + 1 ≤ G := by rw [hG]; exact grownCap_ge w _ _ _
  have hGm : G ≤ maxLen := by rw [hG]; exact grownCap_le_maxLen w (n + 1) n _ (by unfold maxLen; omega)
  have hRl : ROW.size = G * 2 := by
    rw [hROW]
    simp only [Array.size_append, List.size_toArray, size_zeroCells, hAl]
    have : (Value.agg #[Value.int .i64 0, Value.int .i64 0]).cells.size = 2 := rfl
    rw [this]
    omega
  obtain ⟨Z, hZ⟩ : ∃ Z, ROW.toList = A ++ Z := ⟨_, by rw [hROW]; simp only [Array.toList_append, List.append_assoc]; rfl⟩
  have hZl : Z.length = (G - i) * 2 := by
    have := congrArg List.length hZ
    rw [List.length_append, Array.length_toList, hRl, hAl] at this
    omega
  have hgN : W1.heap[w.heap.size]? = some (.cells (A ++ Z).toArray 75 (0, 0)) := by
    rw [hW1, ← hZ]
    exact heap_alloc_new w.drew _
  have hbN : w.grownBy W1 (some w.heap.size) := by
    rw [hW1]
    exact World.grownBy_alloc w.drew _ _ |> fun h => ⟨h.os, h.tape, h.output, h.size, h.block⟩
  have hvbN : W1.heap[vb]? = some (.cells #[x, y] 75 (0, 0)) := (hbN.block vb hvl (by simp; omega)).trans hvb
  have hlA : (A ++ Z).length = G * 2 := by rw [List.length_append, hAl, hZl]; omega
  obtain ⟨w2, hrun2, hg2, hb2⟩ := run_copy2 (P := Tryd.prog) (w := W1) (dT := 59) (sT := 59) (ty := 3) Tryd.underlying59 sizeRun (some ⟨w.heap.size, i * 2, none⟩) (some ⟨vb, 0, none⟩) (n + 1 - i) (G - i) 1 1 w.heap.size (i * 2) (A ++ Z) _ hgN [x, y] (by simp only [Nat.min_def, List.length_cons, List.length_nil]; split <;> omega) (fun _ => ⟨rfl, _, rfl, two_cells hvbN⟩) (by rw [hlA]; simp; omega) (by simp [hx, hy]) w hbN
  have hl2 : (splice (A ++ Z) (i * 2) [x, y]).length = G * 2 := (length_splice _ _ _ (by rw [hlA]; simp; omega)).trans hlA
  have hBs2 : ∀ j v, B[j]? = some v → w2.cell? ((⟨w.heap.size - (w.heap.size - g), i * 2, none⟩ : Addr).add j) = some v := fun j v hj => by
    rw [show w.heap.size - (w.heap.size - g) = g by omega]
    refine hb2.cell (hBs j v hj) ?_
    rw [Addr.add_lit]; simp; omega
  rw [show w.heap.size - (w.heap.size - g) = g by omega] at hBs2
  clear hG hW1 hROW hRl hZ hAB hAs hBs hall hgN hbN hvbN hold hA hB
  have HA := Lib.hid hAl
  have HB := Lib.hid hBl
  have HZ := Lib.hid hZl
  have HL2 := Lib.hid hl2
  clear hAl hBl hZl hl2 hlA
  unfold maxLen at hGm
  have hz1 : ¬ ((i : Int) = (n : Int)) := by omega
  have hz3 : (n : Int) < (n : Int) + 1 := by omega
  have hw1 : IntKind.i64.wrap ((i : Int) + 1) = (i : Int) + 1 := by rw [IntKind.wrap_i64]; omega
  have hb1 : (0 : Int) ≤ (i : Int) + 1 := by omega
  have hin : i ≤ n := by omega
  have htn : ((i : Int) + 1).toNat = i + 1 := by omega
  have hb3 : (i : Int) ≤ (n : Int) + 1 := by omega
  have hb4 : ¬ (n = i) := by omega
  have hGi : ¬ (G = i) := by omega
  have hGim : ¬ (G = i + 1) := by omega
  have mixed : Tryd.prog.follows .mixedOrders = true := by kernel_rfl
  go_enter Tryd.func74, Tryd.ntmps74
  go_wp2_with (at_builtin; refine Lib.wpList_append_run _ rfl _ _ _ _ rfl _ _ rfl rfl _ _ (hrz _) ?_)
  go_region_law_o (refine step_copy2 rfl _ _ 59 59 rfl 75 Tryd.underlying59 sizeRun (some ⟨w.heap.size, (i + 1) * 2, none⟩) (some ⟨g, i * 2, none⟩) (n + 1 - (i + 1)) (G - (i + 1)) (n - i) (n - i) (by simp [Act.eval, Act.put]) (by simp [Act.eval, Act.put]) w.heap.size ((i + 1) * 2) (splice (A ++ Z) (i * 2) [x, y]) _ hg2.out B (by rw [HB.out]; simp only [Nat.min_def]; split <;> omega) (fun _ => ⟨rfl, _, rfl, hBs2⟩) (by rw [HB.out, HL2.out]; omega) hB1 w (grown_drew hb2) ?_; intro w3 hg3 hb3)
  go_wp2
  go_ret
  refine ⟨_, rfl, grown_row_own hg3.out hbase hGn (by unfold maxLen; exact hGm) ((length_splice _ _ _ (by rw [HB.out, HL2.out]; omega)).trans HL2.out) ?_, grown_any hb3, fun g' e => .inr (by simp [Value.ownBlock] at e; omega)⟩
  have h := splice_grow A B Z x y (by rw [HZ.out, HB.out]; omega)
  rw [HA.out, HB.out] at h
  rw [show (i + 1) * 2 = i * 2 + 2 by omega, show (n + 1) * 2 = i * 2 + 2 + (n - i) * 2 by omega]
  exact h
end Go.Proofs.YtooaamepflkgnaaDoor
