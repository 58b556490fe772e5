/- Texts that a proof rests on: Contracts of slices.Insert at rows of runs. | Rows of places, as the reference keeps them, and what they say of a pattern. | The reference's either: places that are in one of two rows. | The reference's often: a repetition, for what its kid's contract is. -/
import Derived.Test.YtpfhhdiipedklaaDoorK32
import Derived.Test.YtpfhhdiipedklaaDoorK15
import Derived.Shelf.RegionOpen
import Derived.Shelf.Spec.SlicesInsert
set_option maxRecDepth 100000
namespace Go.Proofs.YtpfhhdiipedklaaDoor
open Go.RowKit

theorem take_all {xs : List Value} {n : Nat} (h : xs.length = n * 2) : xs.take (n * 2) = xs := List.take_of_length_le (by omega)
theorem drop_all {xs : List Value} {n : Nat} (h : xs.length = n * 2) : xs.drop (n * 2) = [] := List.drop_eq_nil_of_le (by omega)
/-- Rows: what is put between. -/
theorem splice_two (A B Z : List Value) (x y : Value) (hZ : 2 ≤ Z.length) :
    (splice (splice (A ++ (B ++ Z)) (A.length + 2) B) A.length [x, y]).take (A.length + 2 + B.length) = A ++ ([x, y] ++ B) := by
  have e1 : (A ++ (B ++ Z)).take (A.length + 2) = A ++ (B ++ Z).take 2 := List.take_length_add_append 2
  obtain ⟨T, hT⟩ : ∃ T, T = (B ++ Z).take 2 := ⟨_, rfl⟩
  have hTl : T.length = 2 := by rw [hT, List.length_take, List.length_append]; omega
  obtain ⟨W, hW⟩ : ∃ W, W = (A ++ (B ++ Z)).drop (A.length + 2 + B.length) := ⟨_, rfl⟩
  have e2 : splice (A ++ (B ++ Z)) (A.length + 2) B = A ++ (T ++ (B ++ W)) := by
    unfold splice; rw [e1, ← hT, ← hW, List.append_assoc]
  have e3 : splice (A ++ (T ++ (B ++ W))) A.length [x, y] = A ++ ([x, y] ++ (B ++ W)) := by
    unfold splice
    rw [List.take_left]
    congr 2
    show (A ++ (T ++ (B ++ W))).drop (A.length + 2) = _
    rw [List.drop_length_add_append, ← hTl, List.drop_left]
  rw [e2, e3, Nat.add_assoc, List.take_length_add_append]
  congr 1
  show ([x, y] ++ (B ++ W)).take ([x, y].length + B.length) = _
  rw [List.take_length_add_append, List.take_left]
theorem frozen_row {w : World} {g j : Nat} {cur : Array Value} {t : TypeId} (h : w.heap[g]? = some (.cells cur t (0, 0))) : w.frozen? ⟨g, j, none⟩ = false := by simp [World.frozen?, h]
theorem shape_row {w : World} {g : Nat} {cur : Array Value} {t : TypeId} (h : w.heap[g]? = some (.cells cur t (0, 0))) : w.shape? g = some (t, cur.size) := by simp [World.shape?, h]
end Go.Proofs.YtpfhhdiipedklaaDoor
set_option maxRecDepth 20000
namespace Go.Proofs.YtpfhhdiipedklaaDoor
open Go.RowKit

/-- So many places, as cells. -/
def Places (n : Nat) (f : Nat → Bool) : Array Value := ((List.range n).map fun i => Value.bool (f i)).toArray
theorem places_size (n : Nat) (f : Nat → Bool) : (Places n f).size = n := by simp [Places]
theorem places_at {n i : Nat} (f : Nat → Bool) (h : i < n) : (Places n f)[i]? = some (.bool (f i)) := by simp [Places, h]
theorem places_congr {n : Nat} {f g : Nat → Bool} (h : ∀ i, i < n → f i = g i) : Places n f = Places n g := by
  unfold Places
  congr 1
  exact List.map_congr_left fun i hi => by rw [h i (by simpa using hi)]
theorem places_set {n k : Nat} {f g : Nat → Bool} {v : Bool} (hk : g k = v) (h : ∀ i, i < n → i ≠ k → f i = g i) : (Places n f).setIfInBounds k (.bool v) = Places n g := by
  apply Array.ext
  · simp [Places]
  · intro i h1 h2
    have hi : i < n := by simpa [Places] using h2
    rw [Array.getElem_setIfInBounds (by simpa using h1)]
    by_cases e : k = i
    · subst e; simp [Places, hk]
    · rw [if_neg e]; simp [Places, h i hi (fun x => e x.symm)]
/-- A block holds so many places. -/
def Blk (w : World) (b n : Nat) (f : Nat → Bool) : Prop := w.heap[b]? = some (.cells (Places n f) 4 (0, 0))
theorem Blk.cell {w : World} {b n i : Nat} {f : Nat → Bool} (h : Blk w b n f) (hi : i < n) : w.cell? ⟨b, i, none⟩ = some (.bool (f i)) := by
  rw [cell_of_row w b _ _ _ _ h, places_at f hi]
theorem Blk.frozen {w : World} {b n i : Nat} {f : Nat → Bool} (h : Blk w b n f) : w.frozen? ⟨b, i, none⟩ = false := frozen_row (j := i) h
theorem Blk.lt {w : World} {b n : Nat} {f : Nat → Bool} (h : Blk w b n f) : b < w.heap.size := lt_of_block h
theorem Blk.below {w w' : World} {b n : Nat} {f : Nat → Bool} (h : Blk w b n f) (hb : Below w.heap.size w w') : Blk w' b n f := (hb.block b h.lt).trans h
theorem Blk.old {w w' : World} {b n N : Nat} {f : Nat → Bool} (h : Blk w b n f) (hb : Below N w w') (hN : b < N) : Blk w' b n f := (hb.block b hN).trans h
theorem Blk.congr {w : World} {b n : Nat} {f g : Nat → Bool} (h : Blk w b n f) (hf : ∀ i, i < n → f i = g i) : Blk w b n g := by
  unfold Blk at *
  rw [h, places_congr hf]
theorem Blk.set {w : World} {b n k : Nat} {f g : Nat → Bool} {v : Bool} (h : Blk w b n f) (hk : g k = v) (hf : ∀ i, i < n → i ≠ k → f i = g i) : Blk (w.setCell ⟨b, k, none⟩ (.bool v)) b n g := by
  unfold Blk
  rw [setCell_block h, places_set hk hf]
theorem Blk.other {w : World} {b n : Nat} {f : Nat → Bool} (h : Blk w b n f) {a : Addr} (ha : b ≠ a.block) (u : Value) : Blk (w.setCell a u) b n f := by
  unfold Blk
  rw [Below.heap_setCell _ _ _ _ ha]; exact h
theorem Blk.drew {w : World} {b n : Nat} {f : Nat → Bool} (h : Blk w b n f) : Blk w.drew b n f := h
/-- From places to places by a relation. -/
def Go (n : Nat) (R : Int → Int → Prop) (f g : Nat → Bool) : Prop := ∀ x, x ≤ n → (g x = true ↔ ∃ y, y ≤ n ∧ f y = true ∧ R y x)
theorem nat_of {n : Nat} {m : Int} (h0 : 0 ≤ m) (h1 : m ≤ n) : ∃ k : Nat, k ≤ n ∧ m = k := ⟨m.toNat, by omega, by omega⟩
theorem Go.comp {n : Nat} {R Q T : Int → Int → Prop} {f g h : Nat → Bool} (hR : ∀ i j, R i j → 0 ≤ i → i ≤ n → i ≤ j ∧ j ≤ n) (h1 : Go n R f g) (h2 : Go n Q g h) (hT : ∀ i j, T i j ↔ ∃ m, R i m ∧ Q m j) : Go n T f h := by
  intro x hx
  rw [h2 x hx]
  constructor
  · rintro ⟨m, hm, h3, h4⟩
    obtain ⟨y, hy, h5, h6⟩ := (h1 m hm).1 h3
    exact ⟨y, hy, h5, (hT _ _).2 ⟨m, h6, h4⟩⟩
  · rintro ⟨y, hy, h3, h4⟩
    obtain ⟨m, h5, h6⟩ := (hT _ _).1 h4
    have := hR _ _ h5 (by omega) (by omega)
    obtain ⟨k, hk, rfl⟩ := nat_of (n := n) (m := m) (by omega) this.2
    exact ⟨k, hk, (h1 k hk).2 ⟨y, hy, h3, h5⟩, h6⟩
theorem Go.refl (n : Nat) {R : Int → Int → Prop} (hR : ∀ i j, R i j ↔ i = j) (f : Nat → Bool) : Go n R f f := fun x hx => ⟨fun h => ⟨x, hx, h, (hR _ _).2 rfl⟩, fun ⟨y, _, h, e⟩ => by
  have := (hR _ _).1 e
  obtain rfl : y = x := by omega
  exact h⟩
theorem Go.iff {n : Nat} {R Q : Int → Int → Prop} {f g : Nat → Bool} (h : Go n R f g) (hR : ∀ i j : Int, 0 ≤ i → i ≤ n → (Q i j ↔ R i j)) : Go n Q f g := fun x hx => by
  rw [h x hx]
  constructor
  · rintro ⟨y, a, b, c⟩
    exact ⟨y, a, b, (hR _ _ (by omega) (by omega)).2 c⟩
  · rintro ⟨y, a, b, c⟩
    exact ⟨y, a, b, (hR _ _ (by omega) (by omega)).1 c⟩
theorem Go.or {n : Nat} {R Q T : Int → Int → Prop} {f g h : Nat → Bool} (h1 : Go n R f g) (h2 : Go n Q f h) (hT : ∀ i j, T i j ↔ R i j ∨ Q i j) : Go n T f (fun x => g x || h x) := by
  intro x hx
  simp only [Bool.or_eq_true, h1 x hx, h2 x hx, hT]
  constructor
  · rintro (⟨y, a, b, c⟩ | ⟨y, a, b, c⟩)
    · exact ⟨y, a, b, .inl c⟩
    · exact ⟨y, a, b, .inr c⟩
  · rintro ⟨y, a, b, c | c⟩
    · exact .inl ⟨y, a, b, c⟩
    · exact .inr ⟨y, a, b, c⟩
theorem Go.none (n : Nat) {R : Int → Int → Prop} (hR : ∀ i j, ¬ R i j) (f : Nat → Bool) : Go n R f (fun _ => false) := fun x hx => ⟨fun h => by simp at h, fun ⟨y, _, _, h⟩ => absurd h (hR _ _)⟩
/-- Behind some steps more. -/
def Upto (R : Int → Int → Prop) (lo k : Nat) (i j : Int) : Prop := ∃ m : Nat, lo ≤ m ∧ m ≤ lo + k ∧ Pw R m i j
theorem upto_zero (R : Int → Int → Prop) (lo : Nat) (i j : Int) : Upto R lo 0 i j ↔ Pw R lo i j := by
  constructor
  · rintro ⟨m, h1, h2, h3⟩
    obtain rfl : m = lo := by omega
    exact h3
  · intro h
    exact ⟨lo, Nat.le_refl _, Nat.le_refl _, h⟩
theorem upto_succ (R : Int → Int → Prop) (lo k : Nat) (i j : Int) : Upto R lo (k + 1) i j ↔ Upto R lo k i j ∨ Pw R (lo + k + 1) i j := by
  constructor
  · rintro ⟨m, h1, h2, h3⟩
    by_cases e : m = lo + k + 1
    · subst e; exact .inr h3
    · exact .inl ⟨m, h1, by omega, h3⟩
  · rintro (⟨m, h1, h2, h3⟩ | h)
    · exact ⟨m, h1, by omega, h3⟩
    · exact ⟨lo + k + 1, by omega, by omega, h⟩
/-- Steps that stay can be left out. -/
theorem Pw_short {R : Int → Int → Prop} {n : Nat} (hR : ∀ i j, R i j → 0 ≤ i → i ≤ n → i ≤ j ∧ j ≤ n) : ∀ (k : Nat) (i j : Int), Pw R k i j → 0 ≤ i → i ≤ n → ∃ m : Nat, (m : Int) ≤ j - i ∧ Pw R m i j
  | 0, i, j, e, _, _ => by
    rw [Pw] at e
    exact ⟨0, by omega, e⟩
  | k + 1, i, j, ⟨c, h1, h2⟩, h0, hn => by
    have hc := hR i c h1 h0 hn
    obtain ⟨m, h3, h4⟩ := Pw_short hR k c j h2 (by omega) hc.2
    by_cases e : c = i
    · subst e; exact ⟨m, h3, h4⟩
    · exact ⟨m + 1, by omega, c, h1, h4⟩
theorem upto_all {R : Int → Int → Prop} {n lo : Nat} (hR : ∀ i j, R i j → 0 ≤ i → i ≤ n → i ≤ j ∧ j ≤ n) (i j : Int) (h0 : 0 ≤ i) (hn : i ≤ n) : Upto R lo (n + 1) i j ↔ ∃ k : Nat, lo ≤ k ∧ Pw R k i j := by
  constructor
  · rintro ⟨m, h1, _, h3⟩; exact ⟨m, h1, h3⟩
  · rintro ⟨k, h1, h3⟩
    obtain ⟨d, rfl⟩ : ∃ d, k = lo + d := ⟨k - lo, by omega⟩
    obtain ⟨c, h4, h5⟩ := (Pw_add R lo d i j).1 h3
    have hc := Pw_mono hR lo i c h4 h0 hn
    have hj := Pw_mono hR d c j h5 (by omega) hc.2
    obtain ⟨m, h6, h7⟩ := Pw_short hR d c j h5 (by omega) hc.2
    exact ⟨lo + m, by omega, by omega, (Pw_add R lo m i j).2 ⟨c, h4, h7⟩⟩
/-- What a repetition is, for a kind and numbers that may be. -/
theorem rep_upto {s : ByteArray} {p q : Pat} (hop : p.op = 3) (hk : p.kids = [q]) (hn : p.num = true) :
    (p.hi < 0 → ∀ i j : Int, 0 ≤ i → i ≤ s.size → (p.M s i j ↔ Upto (q.M s) p.lo.toNat (s.size + 1) i j)) ∧
    (0 ≤ p.hi → ∀ i j : Int, (p.M s i j ↔ Upto (q.M s) p.lo.toNat (p.hi - p.lo).toNat i j)) ∧ 0 ≤ p.lo ∧ p.lo ≤ 1000 ∧ p.hi ≤ 1000 ∧ (0 ≤ p.hi → p.lo ≤ p.hi) := by
  rw [num_eq, Bool.and_eq_true] at hn
  have h1 : 0 ≤ p.lo ∧ p.lo ≤ 1000 ∧ p.hi ≤ 1000 ∧ (0 ≤ p.hi → p.lo ≤ p.hi) := by
    have := hn.1
    simp [numN, hop] at this
    exact ⟨this.1, this.2.1, this.2.2.1, by omega⟩
  have hR := M_mono s q
  have e : ∀ (k : Nat) (i j : Int), Pw (rowM s [q]) k i j ↔ Pw (q.M s) k i j := fun k i j => by rw [row_one_fun]
  refine ⟨fun hh i j h0 h2 => ?_, fun hh i j => ?_, h1⟩
  · rw [M_rep hop, hk, upto_all hR i j h0 h2]
    constructor
    · rintro ⟨k, h3, _, h4⟩; exact ⟨k, by omega, (e _ _ _).1 h4⟩
    · rintro ⟨k, h3, h4⟩; exact ⟨k, by omega, .inl hh, (e _ _ _).2 h4⟩
  · rw [M_rep hop, hk]
    constructor
    · rintro ⟨k, h3, h4, h5⟩; exact ⟨k, by omega, by omega, (e _ _ _).1 h5⟩
    · rintro ⟨k, h3, h4, h5⟩; exact ⟨k, by omega, by omega, (e _ _ _).2 h5⟩
end Go.Proofs.YtpfhhdiipedklaaDoor
set_option maxRecDepth 100000
namespace Go.Proofs.YtpfhhdiipedklaaDoor
open Go.RowKit

theorem infoBool : (Tryd.prog.info? 4).map (fun i => (i.zero, i.size, i.bytes)) = some (some (.bool false), 1, 1) := by kernel_rfl
theorem made_bools (n : Nat) : madeCells (Value.bool false).cells n = Places n (fun _ => false) := by
  apply Array.ext
  · simp [Places, size_madeCells]
  · intro i h1 h2
    simp [madeCells, Places, Value.cells, Nat.mod_one]
theorem make_bools {c : Int} {n : Nat} (hc : c = n) (hn : n ≤ 100000) (w : World) : (Instr.makeSlice 74 (.int .i64 c) (.int .i64 c)).run Tryd.prog w = .ok (.slice (some ⟨w.heap.size, 0, none⟩) n n) (w.alloc (.cells (Places n (fun _ => false)) 4)) := by
  subst hc
  obtain ⟨i, hi, hz, hs, hb⟩ := info_parts infoBool
  have := run_make (P := Tryd.prog) w 74 4 i _ Tryd.underlying74 hi hz .i64 .i64 n n (by omega) (Int.le_refl _) (by rw [hb]; omega) (by omega)
  rw [← made_bools]
  simpa [hs] using this
theorem Blk.new (w : World) (n : Nat) (f : Nat → Bool) : Blk (w.alloc (.cells (Places n f) 4)) w.heap.size n f := heap_alloc_new w _
/-- A row of its own, of so many places. -/
def Made (n N : Nat) (f : Nat → Bool) (w : World) (e : Ending) (w' : World) : Prop := ∃ r, e = .returned (.slice (some ⟨r, 0, none⟩) n n) ∧ Hid (N ≤ r) ∧ Hid (Blk w' r n f) ∧ Hid (Below N w w')
set_option maxHeartbeats 2000000 in
theorem reither_any (n a b : Nat) (f g : Nat → Bool) (w : World) (hn : n ≤ 1000) (ha : Blk w a n f) (hb : Blk w b n g) :
    Calls Tryd.prog 69 #[.slice (some ⟨a, 0, none⟩) n n, .slice (some ⟨b, 0, none⟩) n n] w (Made n w.heap.size (fun i => f i || g i) w) := by
  have hmk := make_bools (c := n) (n := n) rfl (by omega)
  obtain ⟨N, hN⟩ : ∃ N, w.heap.size = N := ⟨_, rfl⟩
  have HA := Lib.hid ha
  have HB := Lib.hid hb
  have hla := ha.lt
  have hlb := hb.lt
  have HNEW : Hid (Blk (w.alloc (.cells (Places n (fun _ => false)) 4)) N n (fun _ => false)) := by rw [← hN]; exact Lib.hid (Blk.new w n _)
  have HBW : Hid (Below N w (w.alloc (.cells (Places n (fun _ => false)) 4))) := by rw [← hN]; exact Lib.hid ((Below.refl _ _).alloc (Nat.le_refl _) _)
  clear ha hb
  rw [hN]
  go_enter Tryd.func69, Tryd.ntmps69
  go_wp2
  rw [hN] at *
  clear hmk
  go_loopw [6] (fun x wr => ∃ k : Nat, x = .int .i64 k ∧ k ≤ n ∧ Hid (Blk wr N n (fun i => decide (i < k) && (f i || g i))) ∧ Hid (Below N w wr)) (fun x _ => n - (intOf x).toNat)
  case atStart => exact ⟨0, rfl, Nat.zero_le _, Lib.hid (HNEW.out.congr fun i _ => by simp), HBW⟩
  case round =>
    obtain ⟨k, rfl, hk, HK, HBR⟩ := hrel
    by_cases hlt : k < n
    · have ca := (HA.out.old HBR.out (by omega)).cell hlt
      have cb := (HB.out.old HBR.out (by omega)).cell hlt
      have cn := HK.out.cell hlt
      have fn : wr.frozen? ⟨N, k, none⟩ = false := HK.out.frozen
      have HNX : ∀ v, (f k || g k) = v → Hid (Blk (wr.setCell ⟨N, k, none⟩ (.bool v)) N n (fun i => decide (i < k + 1) && (f i || g i))) := fun v hv => Lib.hid (HK.out.set (by simp [hv]) fun i _ hne => by
        have : i < k + 1 ↔ i < k := by omega
        simp only [this])
      have HBX : ∀ v, Hid (Below N w (wr.setCell ⟨N, k, none⟩ v)) := fun v => Lib.hid (HBR.out.setCell (p := ⟨N, k, none⟩) (Nat.le_refl N) v)
      have HNXT := HNX true
      have HNXF := HNX false
      clear HNX
      generalize f k = x at *
      generalize g k = y at *
      clear HK
      cases x <;> cases y
      all_goals
        go_wp2
        go_roundw
        case rel => exact ⟨k + 1, num_succ k, by omega, by first | exact HNXT rfl | exact HNXF rfl, HBX _⟩
        case measure => simp [intOf]; omega
    · obtain rfl : k = n := by omega
      have HF : Hid (Blk wr N k (fun i => f i || g i)) := Lib.hid (HK.out.congr fun i hi => by simp [hi])
      go_wp2
      exact bodyPost_ret (v := .slice (some ⟨N, 0, none⟩) k k) (by simp [results, Tryd.results69, go_sem, *]) rfl ⟨N, rfl, Lib.hid (Nat.le_refl _), HF, HBR⟩
end Go.Proofs.YtpfhhdiipedklaaDoor
set_option maxRecDepth 100000
namespace Go.Proofs.YtpfhhdiipedklaaDoor
open Go.RowKit

/-- What 'from' gives: the row of the places that are come to. -/
def FromP (s : ByteArray) (p : Pat) (n : Nat) (f : Nat → Bool) (N : Nat) (w : World) (e : Ending) (w' : World) : Prop := ∃ r g, e = .returned (.slice (some ⟨r, 0, none⟩) n n) ∧ Hid (N ≤ r) ∧ Hid (Blk w' r n g) ∧ Hid (Go s.size (p.M s) f g) ∧ Hid (Below N w w')
/-- .. for each row. -/
def FromC (s : ByteArray) (n : Nat) (p : Pat) : Prop := ∀ (ks : Value) (w : World) (b : Nat) (f : Nat → Bool), Kids w p.kids ks → Blk w b n f →
  Calls Tryd.prog 62 #[(.agg #[.int .i64 p.op, .int .u64 (wd p.set 0), .int .u64 (wd p.set 1), .int .u64 (wd p.set 2), .int .u64 (wd p.set 3), .int .i64 p.lo, .int .i64 p.hi, ks]), .string s, .slice (some ⟨b, 0, none⟩) n n] w (FromP s p n f w.heap.size w)
theorem box8 {w : World} {b : Nat} {p : Pat} {ks : Value} (h : w.heap[b]? = some (.cells #[.int .i64 p.op, .int .u64 (wd p.set 0), .int .u64 (wd p.set 1), .int .u64 (wd p.set 2), .int .u64 (wd p.set 3), .int .i64 p.lo, .int .i64 p.hi, ks] 36 (0, 0))) : w.cell? ⟨b, 0, none⟩ = some (.int .i64 p.op) ∧ w.cell? ⟨b, 1, none⟩ = some (.int .u64 (wd p.set 0)) ∧ w.cell? ⟨b, 2, none⟩ = some (.int .u64 (wd p.set 1)) ∧ w.cell? ⟨b, 3, none⟩ = some (.int .u64 (wd p.set 2)) ∧ w.cell? ⟨b, 4, none⟩ = some (.int .u64 (wd p.set 3)) ∧ w.cell? ⟨b, 5, none⟩ = some (.int .i64 p.lo) ∧ w.cell? ⟨b, 6, none⟩ = some (.int .i64 p.hi) ∧ w.cell? ⟨b, 7, none⟩ = some ks :=
  ⟨(cell_of_row _ _ 0 _ _ _ h).trans rfl, (cell_of_row _ _ 1 _ _ _ h).trans rfl, (cell_of_row _ _ 2 _ _ _ h).trans rfl, (cell_of_row _ _ 3 _ _ _ h).trans rfl, (cell_of_row _ _ 4 _ _ _ h).trans rfl, (cell_of_row _ _ 5 _ _ _ h).trans rfl, (cell_of_row _ _ 6 _ _ _ h).trans rfl, (cell_of_row _ _ 7 _ _ _ h).trans rfl⟩
theorem one_node {w : World} {q : Pat} {kids : List Pat} {a : Option Addr} {n c : Nat} (hk : Kids w kids (.slice a n c)) (h : kids = [q]) : ∃ b o, a = some ⟨b, o, none⟩ ∧ n = 1 ∧ NodeAt w q b o := by
  subst h
  obtain ⟨b, o, cap, e, hr⟩ := hk.row (by simp)
  cases e
  unfold RowAt at hr
  exact ⟨b, o, rfl, rfl, hr.1⟩
set_option maxHeartbeats 4000000 in
theorem often_any (s : ByteArray) (n : Nat) (p q : Pat) (hop : p.op = 3) (hq : p.kids = [q]) (hnum : p.num = true) (hn : s.size + 1 = n) (hsz : s.size ≤ 90) (H : FromC s n q)
    (ks : Value) (w : World) (b : Nat) (f : Nat → Bool) (hk : Kids w p.kids ks) (hb : Blk w b n f) :
    Calls Tryd.prog 70 #[(.agg #[.int .i64 p.op, .int .u64 (wd p.set 0), .int .u64 (wd p.set 1), .int .u64 (wd p.set 2), .int .u64 (wd p.set 3), .int .i64 p.lo, .int .i64 p.hi, ks]), .string s, .slice (some ⟨b, 0, none⟩) n n] w (FromP s p n f w.heap.size w) := by
  obtain ⟨hrep1, hrep2, hl0, hl1, hh1, hlh⟩ := rep_upto (s := s) hop hq hnum
  obtain ⟨a, cap, rfl⟩ := hk.len
  obtain ⟨kb, ko, ha, hlen, hnode⟩ := one_node hk hq
  rw [hlen] at hk ⊢
  subst ha
  obtain ⟨lo, hlo⟩ : ∃ lo : Nat, p.lo = (lo : Int) := ⟨p.lo.toNat, by omega⟩
  obtain ⟨hi, hhi⟩ : ∃ hi : Int, p.hi = hi := ⟨_, rfl⟩
  obtain ⟨N, hN⟩ : ∃ N, w.heap.size = N := ⟨_, rfl⟩
  obtain ⟨w1, hw1⟩ : ∃ w1, w1 = w.alloc (.cells #[.int .i64 p.op, .int .u64 (wd p.set 0), .int .u64 (wd p.set 1), .int .u64 (wd p.set 2), .int .u64 (wd p.set 3), .int .i64 p.lo, .int .i64 p.hi, .slice (some ⟨kb, ko, none⟩) 1 cap] 36) := ⟨_, rfl⟩
  have hb1 : Below N w w1 := by rw [hw1, ← hN]; exact (Below.refl _ _).alloc (Nat.le_refl _) _
  have hs1 : w1.heap.size = N + 1 := by rw [hw1]; simp [hN]
  have hbn : w1.heap[N]? = some (.cells #[.int .i64 p.op, .int .u64 (wd p.set 0), .int .u64 (wd p.set 1), .int .u64 (wd p.set 2), .int .u64 (wd p.set 3), .int .i64 p.lo, .int .i64 p.hi, .slice (some ⟨kb, ko, none⟩) 1 cap] 36 (0, 0)) := by rw [hw1, ← hN]; exact heap_alloc_new w _
  have HW1 := Lib.hid hw1
  have HBN := Lib.hid hbn
  have HB1 := Lib.hid hb1
  have hblt := hb.lt
  have HB := Lib.hid (hb.old hb1 (by omega))
  have HND := Lib.hid (show ∀ wr, Below (N + 1) w1 wr → NodeAt wr q kb ko from fun wr hbr => hnode.mono (Sub.of_below (w := w) (by rw [hN]; exact hb1.trans (hbr.mono (by omega)))))
  have HUP : Hid (∃ mo : Nat, (hi < 0 → (mo : Int) = s.size + 1) ∧ (0 ≤ hi → (mo : Int) = hi - lo) ∧ mo ≤ 1000 ∧ ∀ i j : Int, 0 ≤ i → i ≤ s.size → (p.M s i j ↔ Upto (q.M s) lo mo i j)) := Lib.hid (by
    subst hhi
    by_cases h : p.hi < 0
    · exact ⟨s.size + 1, fun _ => by omega, fun h2 => by omega, by omega, fun i j h1 h2 => by have := hrep1 h i j h1 h2; rwa [hlo] at this⟩
    · have h3 := hlh (by omega)
      exact ⟨(p.hi - p.lo).toNat, fun h2 => absurd h2 h, fun h2 => by omega, by omega, fun i j h1 h2 => by
        have := hrep2 (by omega) i j
        rw [this, hlo]
        rfl⟩)
  have HLO := Lib.hid hlo
  have HHI := Lib.hid hhi
  rw [hlo] at hl0 hl1 hlh
  rw [hhi] at hh1 hlh
  clear hrep1 hrep2 hk hb hbn hb1 hw1 hnode hop hlo hhi hlen hnum hq
  rw [hN]
  go_enter Tryd.func70, Tryd.ntmps70
  go_wp2_with (go_at_call 69; rw [← HW1.out]; refine (reither_any n b b f f w1 (by omega) HB.out HB.out).mono ?_; rintro e w2 ⟨r0, rfl, HR0, HBL0, HBW0⟩)
  rw [hs1] at HR0 HBW0
  go_loopw [7, 8] (fun v x wr => ∃ (k r : Nat) (g : Nat → Bool), x = .int .i64 k ∧ k ≤ lo ∧ v = .slice (some ⟨r, 0, none⟩) n n ∧ Hid (N ≤ r) ∧ Hid (Blk wr r n g) ∧ Hid (Go s.size (Pw (q.M s) k) f g) ∧ Hid (Below (N + 1) w1 wr)) (fun _ x _ => lo - (intOf x).toNat)
  case atStart => exact ⟨0, r0, _, rfl, Nat.zero_le _, rfl, Lib.hid (by have := HR0.out; omega), HBL0, Lib.hid (fun x hx => by
    have := Go.refl s.size (R := Pw (q.M s) 0) (fun i j => by rw [Pw]) f x hx
    simpa using this), HBW0⟩
  case round =>
    obtain ⟨k, r, g, rfl, hk, rfl, HRR, HBG, HG, HBW⟩ := hrel
    obtain ⟨c0, c1, c2, c3, c4, c5, c6, c7⟩ := box8 ((HBW.out.block N (by omega)).trans HBN.out)
    rw [HLO.out] at c5
    rw [HHI.out] at c6
    by_cases hlt : k < lo
    · obtain ⟨ks', hks, e0, e1, e2, e3, e4, e5, e6, e7⟩ := (HND.out wr HBW.out).load
      have HC := Lib.hid (H ks' wr r g hks HBG.out)
      clear hks
      go_wp2_with (go_at_call 62; refine HC.out.mono ?_; rintro e w3 ⟨r3, g3, rfl, HR3, HBL3, HG3, HBW3⟩)
      go_roundw
      case rel => exact ⟨k + 1, r3, g3, num_succ k, by omega, rfl, Lib.hid (by have := HR3.out; have := HBW.out.size; omega), HBL3, Lib.hid (HG.out.comp (fun i j h h0 h1 => Pw_mono (n := s.size) (M_mono s q) k i j h h0 h1) HG3.out (fun i j => Pw_succ _ _ _ _)), Lib.hid (HBW.out.trans (HBW3.out.mono (by have := HBW.out.size; omega)))⟩
      case measure => simp [intOf]; omega
    · obtain rfl : k = lo := by omega
      obtain ⟨mo, hm1, hm2, hmo, HM⟩ := HUP.out
      replace HM := Lib.hid HM
      clear HUP
      have HG0 : Hid (Go s.size (Upto (q.M s) k 0) f g) := Lib.hid (HG.out.iff fun i j _ _ => upto_zero _ _ _ _)
      by_cases hneg : hi < 0
      · have hd : decide (hi < 0) = true := by simpa using hneg
        go_wp2
        have hmm : (s.size : Int) + 1 = mo := (hm1 hneg).symm
        rw [hmm]
        clear hmm
        go_loopw [7, 9, 11] (fun v u x wr2 => ∃ (j r1 r2 : Nat) (g1 g2 : Nat → Bool), x = .int .i64 j ∧ j ≤ mo ∧ v = .slice (some ⟨r1, 0, none⟩) n n ∧ u = .slice (some ⟨r2, 0, none⟩) n n ∧ Hid (N ≤ r2) ∧ Hid (Blk wr2 r1 n g1) ∧ Hid (Blk wr2 r2 n g2) ∧ Hid (Go s.size (Pw (q.M s) (k + j)) f g1) ∧ Hid (Go s.size (Upto (q.M s) k j) f g2) ∧ Hid (Below (N + 1) w1 wr2)) (fun _ _ x _ => mo - (intOf x).toNat)
        case atStart => exact ⟨0, r, r, g, g, rfl, Nat.zero_le _, rfl, rfl, HRR, HBG, HBG, HG, HG0, HBW⟩
        case round =>
          clear c0 c1 c2 c3 c4 c5 c6 c7
          obtain ⟨j, r1, r2, g1, g2, rfl, hj, rfl, rfl, HXR, HX1, HX2, HGA, HGB, HBX⟩ := hrel
          obtain ⟨c0, c1, c2, c3, c4, c5, c6, c7⟩ := box8 ((HBX.out.block N (by omega)).trans HBN.out)
          by_cases hjl : j < mo
          · have hd2 : decide ((j : Int) < mo) = true := by simpa using hjl
            clear hd hm1 hm2
            obtain ⟨ks', hks, e0, e1, e2, e3, e4, e5, e6, e7⟩ := (HND.out _ HBX.out).load
            have HC := Lib.hid (H ks' _ r1 g1 hks HX1.out)
            clear hks
            go_wp2_with (first
              | (go_at_call 62; refine HC.out.mono ?_; rintro e w3 ⟨r3, g3, rfl, HR3, HBL3, HG3, HBW3⟩; have HX4 := Lib.hid (HX2.out.below HBW3.out))
              | (go_at_call 69; refine (reither_any n r2 r3 g2 g3 w3 (by omega) HX4.out HBL3.out).mono ?_; rintro e w4 ⟨r4, rfl, HR4, HBL4, HBW4⟩))
            go_roundw
            case rel =>
              have hg := HGA.out.comp (fun i j h h0 h1 => Pw_mono (n := s.size) (M_mono s q) _ i j h h0 h1) HG3.out (fun i j => Pw_succ _ _ _ _)
              have hbx := HBX.out.trans (HBW3.out.mono (by have := HBX.out.size; omega))
              exact ⟨j + 1, r3, r4, g3, _, num_succ j, by omega, rfl, rfl, Lib.hid (by have := HR4.out; have := hbx.size; omega), Lib.hid (HBL3.out.below HBW4.out), HBL4, Lib.hid hg, Lib.hid (HGB.out.or hg (fun i j => upto_succ _ _ _ _ _)), Lib.hid (hbx.trans (HBW4.out.mono (by have := hbx.size; omega)))⟩
            case measure => simp [intOf]; omega
          · obtain rfl : j = mo := by omega
            have hd2 : decide ((j : Int) < j) = false := by simp
            clear hd hm1 hm2
            go_wp2
            exact bodyPost_ret (v := .slice (some ⟨r2, 0, none⟩) n n) (by simp [results, Tryd.results70, go_sem, *]) rfl ⟨r2, g2, rfl, HXR, HX2, Lib.hid (HGB.out.iff fun i j h0 h1 => HM.out i j h0 h1), Lib.hid (HB1.out.trans (HBX.out.mono (by omega)))⟩
      · have hd : decide (hi < 0) = false := by simpa using hneg
        have hmm : hi - (k : Int) = mo := (hm2 (by omega)).symm
        go_wp2
        clear hmm
        go_loopw [7, 9, 11] (fun v u x wr2 => ∃ (j r1 r2 : Nat) (g1 g2 : Nat → Bool), x = .int .i64 j ∧ j ≤ mo ∧ v = .slice (some ⟨r1, 0, none⟩) n n ∧ u = .slice (some ⟨r2, 0, none⟩) n n ∧ Hid (N ≤ r2) ∧ Hid (Blk wr2 r1 n g1) ∧ Hid (Blk wr2 r2 n g2) ∧ Hid (Go s.size (Pw (q.M s) (k + j)) f g1) ∧ Hid (Go s.size (Upto (q.M s) k j) f g2) ∧ Hid (Below (N + 1) w1 wr2)) (fun _ _ x _ => mo - (intOf x).toNat)
        case atStart => exact ⟨0, r, r, g, g, rfl, Nat.zero_le _, rfl, rfl, HRR, HBG, HBG, HG, HG0, HBW⟩
        case round =>
          clear c0 c1 c2 c3 c4 c5 c6 c7
          obtain ⟨j, r1, r2, g1, g2, rfl, hj, rfl, rfl, HXR, HX1, HX2, HGA, HGB, HBX⟩ := hrel
          obtain ⟨c0, c1, c2, c3, c4, c5, c6, c7⟩ := box8 ((HBX.out.block N (by omega)).trans HBN.out)
          by_cases hjl : j < mo
          · have hd2 : decide ((j : Int) < mo) = true := by simpa using hjl
            clear hd hm1 hm2
            obtain ⟨ks', hks, e0, e1, e2, e3, e4, e5, e6, e7⟩ := (HND.out _ HBX.out).load
            have HC := Lib.hid (H ks' _ r1 g1 hks HX1.out)
            clear hks
            go_wp2_with (first
              | (go_at_call 62; refine HC.out.mono ?_; rintro e w3 ⟨r3, g3, rfl, HR3, HBL3, HG3, HBW3⟩; have HX4 := Lib.hid (HX2.out.below HBW3.out))
              | (go_at_call 69; refine (reither_any n r2 r3 g2 g3 w3 (by omega) HX4.out HBL3.out).mono ?_; rintro e w4 ⟨r4, rfl, HR4, HBL4, HBW4⟩))
            go_roundw
            case rel =>
              have hg := HGA.out.comp (fun i j h h0 h1 => Pw_mono (n := s.size) (M_mono s q) _ i j h h0 h1) HG3.out (fun i j => Pw_succ _ _ _ _)
              have hbx := HBX.out.trans (HBW3.out.mono (by have := HBX.out.size; omega))
              exact ⟨j + 1, r3, r4, g3, _, num_succ j, by omega, rfl, rfl, Lib.hid (by have := HR4.out; have := hbx.size; omega), Lib.hid (HBL3.out.below HBW4.out), HBL4, Lib.hid hg, Lib.hid (HGB.out.or hg (fun i j => upto_succ _ _ _ _ _)), Lib.hid (hbx.trans (HBW4.out.mono (by have := hbx.size; omega)))⟩
            case measure => simp [intOf]; omega
          · obtain rfl : j = mo := by omega
            have hd2 : decide ((j : Int) < j) = false := by simp
            clear hd hm1 hm2
            go_wp2
            exact bodyPost_ret (v := .slice (some ⟨r2, 0, none⟩) n n) (by simp [results, Tryd.results70, go_sem, *]) rfl ⟨r2, g2, rfl, HXR, HX2, Lib.hid (HGB.out.iff fun i j h0 h1 => HM.out i j h0 h1), Lib.hid (HB1.out.trans (HBX.out.mono (by omega)))⟩
end Go.Proofs.YtpfhhdiipedklaaDoor
