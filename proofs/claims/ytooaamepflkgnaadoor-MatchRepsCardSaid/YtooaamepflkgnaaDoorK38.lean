/- Texts that a proof rests on: The turned pattern matches just the turned texts. | What a region of calls leans on: cells of one or two nodes, and that all that was stays. -/
import Derived.Test.YtooaamepflkgnaaDoorK10
import Derived.Test.YtooaamepflkgnaaDoorK11
set_option maxRecDepth 20000
namespace Go.Proofs.YtooaamepflkgnaaDoor
open Go.RowKit

/-- A text and the same text turned. -/
structure Turned (s t : ByteArray) : Prop where
  size : t.size = s.size
  at_ : ∀ i (h : i < s.size) (h' : s.size - 1 - i < t.size), t[s.size - 1 - i] = s[i]
/-- Between two places of a text. -/
def Bw (n i j : Int) : Prop := 0 ≤ i ∧ i ≤ n ∧ 0 ≤ j ∧ j ≤ n
theorem rowM_back {s t : ByteArray} (ht : t.size = s.size) : ∀ (l : List Pat), (∀ p ∈ l, ∀ i j : Int, Bw s.size i j → (p.M s i j ↔ p.back.M t (s.size - j) (s.size - i))) → ∀ i j : Int, Bw s.size i j → (rowM s l i j ↔ rowM t (l.map Pat.back).reverse (s.size - j) (s.size - i))
  | [], _, i, j, hb => by
    simp only [List.map_nil, List.reverse_nil, rowM_nil]; omega
  | p :: l, H, i, j, hb => by
    simp only [List.map_cons, List.reverse_cons, rowM_append, rowM_cons, rowM_nil]
    obtain ⟨b0, b1, b2, b3⟩ := hb
    constructor
    · rintro ⟨m, h1, h2⟩
      have a := M_mono s p i m h1 b0 b1
      refine ⟨s.size - m, (rowM_back ht l (fun q hq => H q (by simp [hq])) m j ⟨by omega, by omega, b2, b3⟩).1 h2, _, (H p (by simp) i m ⟨b0, b1, by omega, by omega⟩).1 h1, rfl⟩
    · rintro ⟨m, h1, m2, h2, rfl⟩
      have a := row_mono t _ _ _ h1 (by omega) (by omega)
      refine ⟨s.size - m, ?_, ?_⟩
      · refine (H p (by simp) i (s.size - m) ⟨b0, b1, by omega, by omega⟩).2 ?_
        rw [show (s.size : Int) - (s.size - m) = m by omega]
        exact h2
      · refine (rowM_back ht l (fun q hq => H q (by simp [hq])) (s.size - m) j ⟨by omega, by omega, b2, b3⟩).2 ?_
        rw [show (s.size : Int) - (s.size - m) = m by omega]
        exact h1
theorem Pw_back {n : Int} {R R' : Int → Int → Prop} (hm : ∀ i j, R i j → 0 ≤ i → i ≤ n → i ≤ j ∧ j ≤ n) (hm' : ∀ i j, R' i j → 0 ≤ i → i ≤ n → i ≤ j ∧ j ≤ n) (H : ∀ i j, Bw n i j → (R i j ↔ R' (n - j) (n - i))) : ∀ (k : Nat) (i j : Int), Bw n i j → (Pw R k i j ↔ Pw R' k (n - j) (n - i))
  | 0, i, j, hb => by simp only [Pw]; omega
  | k + 1, i, j, hb => by
    rw [Pw_succ R']
    obtain ⟨b0, b1, b2, b3⟩ := hb
    constructor
    · rintro ⟨m, h1, h2⟩
      have a := hm i m h1 b0 b1
      exact ⟨n - m, (Pw_back hm hm' H k m j ⟨by omega, by omega, b2, b3⟩).1 h2, (H i m ⟨b0, b1, by omega, by omega⟩).1 h1⟩
    · rintro ⟨m, h1, h2⟩
      have a := Pw_mono hm' k _ _ h1 (by omega) (by omega)
      refine ⟨n - m, ?_, ?_⟩
      · refine (H i (n - m) ⟨b0, b1, by omega, by omega⟩).2 ?_
        rw [show n - (n - m) = m by omega]; exact h2
      · refine (Pw_back hm hm' H k (n - m) j ⟨by omega, by omega, b2, b3⟩).2 ?_
        rw [show n - (n - m) = m by omega]; exact h1
theorem M_back {s t : ByteArray} (ht : Turned s t) (p : Pat) : p.ok = true → ∀ i j : Int, Bw s.size i j → (p.M s i j ↔ p.back.M t (s.size - j) (s.size - i)) := by
  induction p using Pat.by_size with | h p ih => ?_
  intro hok i j hb
  have hts := ht.size
  rw [ok_eq, Bool.and_eq_true, List.all_eq_true] at hok
  have H : ∀ q ∈ p.kids, ∀ i j : Int, Bw s.size i j → (q.M s i j ↔ q.back.M t (s.size - j) (s.size - i)) := fun q hq => ih q hq (hok.2 q hq)
  have hb0 := hb
  obtain ⟨b0, b1, b2, b3⟩ := hb
  by_cases h0 : p.op = 0
  · rw [M_set h0, M_set (by rw [back_eq]; exact h0)]
    have hset : p.back.set = p.set := by rw [back_eq]; rfl
    rw [hset]
    constructor
    · rintro ⟨_, rfl, h1, h2⟩
      have := ht.at_ i.toNat h1 (by omega)
      refine ⟨by omega, by omega, by omega, ?_⟩
      have e : ((s.size : Int) - (i + 1)).toNat = s.size - 1 - i.toNat := by omega
      simp only [e, this]; exact h2
    · rintro ⟨h3, h4, h1, h2⟩
      obtain rfl : j = i + 1 := by omega
      have h5 : i.toNat < s.size := by omega
      refine ⟨b0, rfl, h5, ?_⟩
      have := ht.at_ i.toNat h5 (by omega)
      have e : ((s.size : Int) - (i + 1)).toNat = s.size - 1 - i.toNat := by omega
      simp only [e, this] at h2; exact h2
  by_cases h1 : p.op = 1
  · have hk : p.back.kids = (p.kids.map Pat.back).reverse := by rw [back_eq, kids_mk, h1]; rfl
    rw [M_cat h1, M_cat (by rw [back_eq]; exact h1), hk]
    exact rowM_back hts p.kids H i j hb0
  have hk : p.back.kids = p.kids.map Pat.back := by
    rw [back_eq, kids_mk]
    have : (p.op == 1) = false := by simpa using h1
    rw [this]; rfl
  have hop : p.back.op = p.op := by rw [back_eq]; rfl
  have hlo : p.back.lo = p.lo := by rw [back_eq]; rfl
  have hhi : p.back.hi = p.hi := by rw [back_eq]; rfl
  have hrow : p.kids.length = 1 → ∀ i j : Int, Bw s.size i j → (rowM s p.kids i j ↔ rowM t (p.kids.map Pat.back) (s.size - j) (s.size - i)) := by
    intro hl i j hb
    obtain ⟨q, hq⟩ := List.length_eq_one_iff.1 hl
    rw [rowM_back hts p.kids H i j hb, hq]; rfl
  by_cases h2 : p.op = 2
  · rw [M_alt h2, M_alt (hop.trans h2), hk, altM_iff, altM_iff]
    constructor
    · rintro ⟨q, hq, hm⟩
      exact ⟨q.back, List.mem_map_of_mem hq, (H q hq i j hb0).1 hm⟩
    · rintro ⟨q', hq', hm⟩
      obtain ⟨q, hq, rfl⟩ := List.mem_map.1 hq'
      exact ⟨q, hq, (H q hq i j hb0).2 hm⟩
  by_cases h3 : p.op = 3
  · have hl : p.kids.length = 1 := by simpa [h3] using hok.1
    rw [M_rep h3, M_rep (hop.trans h3), hk, hlo, hhi]
    have := fun k => Pw_back (n := s.size) (R := rowM s p.kids) (R' := rowM t (p.kids.map Pat.back)) (row_mono s _) (by rw [← hts]; exact row_mono t _) (hrow hl) k i j hb0
    simp only [this]
  by_cases h4 : p.op = 4
  · rw [M_and h4, M_and (hop.trans h4), hk, allM_iff, allM_iff]
    constructor
    · rintro ⟨a, b, c⟩
      refine ⟨by omega, by omega, fun q' hq' => ?_⟩
      obtain ⟨q, hq, rfl⟩ := List.mem_map.1 hq'
      exact (H q hq i j hb0).1 (c q hq)
    · rintro ⟨a, b, c⟩
      exact ⟨by omega, by omega, fun q hq => (H q hq i j hb0).2 (c q.back (List.mem_map_of_mem hq))⟩
  by_cases h5 : p.op = 5
  · have hl : p.kids.length = 1 := by simpa [h5] using hok.1
    rw [M_not h5, M_not (hop.trans h5), hk, hrow hl i j hb0]
    constructor
    · rintro ⟨a, b, c⟩
      exact ⟨by omega, by omega, c⟩
    · rintro ⟨a, b, c⟩
      exact ⟨by omega, by omega, c⟩
  · have n1 := M_none (s := s) (p := p) ⟨h0, h1, h2, h3, h4, h5⟩ i j
    have n2 := M_none (s := t) (p := p.back) (by rw [hop]; exact ⟨h0, h1, h2, h3, h4, h5⟩) (s.size - j) (s.size - i)
    exact ⟨fun h => absurd h n1, fun h => absurd h n2⟩
theorem back_num (p : Pat) : p.back.num = p.num := by
  induction p using Pat.by_size with | h p ih => ?_
  rw [num_eq p, num_eq p.back]
  have hop : p.back.op = p.op := by rw [back_eq]; rfl
  have hlo : p.back.lo = p.lo := by rw [back_eq]; rfl
  have hhi : p.back.hi = p.hi := by rw [back_eq]; rfl
  rw [hop, hlo, hhi]
  congr 1
  have hm : (p.kids.map Pat.back).all Pat.num = p.kids.all Pat.num := by
    rw [Bool.eq_iff_iff, List.all_eq_true, List.all_eq_true]
    constructor
    · intro h q hq; rw [← ih q hq]; exact h q.back (List.mem_map_of_mem hq)
    · intro h q' hq'
      obtain ⟨q, hq, rfl⟩ := List.mem_map.1 hq'
      rw [ih q hq]; exact h q hq
  rw [back_eq, kids_mk]
  cases p.op == 1
  · simpa only [cond_false] using hm
  · simp only [cond_true, List.all_reverse]; exact hm
theorem back_whole {s t : ByteArray} (ht : Turned s t) {p : Pat} (hok : p.ok = true) : p.M s 0 s.size ↔ p.back.M t 0 t.size := by
  rw [M_back ht p hok 0 s.size ⟨by omega, by omega, by omega, by omega⟩, ht.size]
  simp
end Go.Proofs.YtooaamepflkgnaaDoor
set_option maxRecDepth 20000
namespace Go.Proofs.YtooaamepflkgnaaDoor
open Go.RowKit

theorem s8_keep {w5 W W' : World} {b : Nat} {x0 x1 x2 x3 x4 x5 x6 x7 : Value} (hbl : b < w5.heap.size)
    (h : W.cell? ⟨b, 0, none⟩ = some x0 ∧ W.cell? ⟨b, 1, none⟩ = some x1 ∧ W.cell? ⟨b, 2, none⟩ = some x2 ∧ W.cell? ⟨b, 3, none⟩ = some x3 ∧ W.cell? ⟨b, 4, none⟩ = some x4 ∧ W.cell? ⟨b, 5, none⟩ = some x5 ∧ W.cell? ⟨b, 6, none⟩ = some x6 ∧ W.cell? ⟨b, 7, none⟩ = some x7 ∧ Below w5.heap.size w5 W) (hb : Below W.heap.size W W') :
    W'.cell? ⟨b, 0, none⟩ = some x0 ∧ W'.cell? ⟨b, 1, none⟩ = some x1 ∧ W'.cell? ⟨b, 2, none⟩ = some x2 ∧ W'.cell? ⟨b, 3, none⟩ = some x3 ∧ W'.cell? ⟨b, 4, none⟩ = some x4 ∧ W'.cell? ⟨b, 5, none⟩ = some x5 ∧ W'.cell? ⟨b, 6, none⟩ = some x6 ∧ W'.cell? ⟨b, 7, none⟩ = some x7 ∧ Below w5.heap.size w5 W' := by
  obtain ⟨h0, h1, h2, h3, h4, h5, h6, h7, h8⟩ := h
  have lb : b < W.heap.size := Nat.lt_of_lt_of_le hbl h8.size
  have cb (o : Nat) := hb.cell (p := ⟨b, o, none⟩) lb
  exact ⟨(cb _).trans h0, (cb _).trans h1, (cb _).trans h2, (cb _).trans h3, (cb _).trans h4, (cb _).trans h5, (cb _).trans h6, (cb _).trans h7, h8.trans (hb.mono h8.size)⟩
theorem s8_below {w5 W : World} {b : Nat} {x0 x1 x2 x3 x4 x5 x6 x7 : Value}
    (h : W.cell? ⟨b, 0, none⟩ = some x0 ∧ W.cell? ⟨b, 1, none⟩ = some x1 ∧ W.cell? ⟨b, 2, none⟩ = some x2 ∧ W.cell? ⟨b, 3, none⟩ = some x3 ∧ W.cell? ⟨b, 4, none⟩ = some x4 ∧ W.cell? ⟨b, 5, none⟩ = some x5 ∧ W.cell? ⟨b, 6, none⟩ = some x6 ∧ W.cell? ⟨b, 7, none⟩ = some x7 ∧ Below w5.heap.size w5 W) : Below w5.heap.size w5 W := h.2.2.2.2.2.2.2.2
theorem s8_start {w5 W : World} {b : Nat} {x0 x1 x2 x3 x4 x5 x6 x7 : Value} (hx : Box w5 b #[x0, x1, x2, x3, x4, x5, x6, x7]) (hb : Below w5.heap.size w5 W) :
    W.cell? ⟨b, 0, none⟩ = some x0 ∧ W.cell? ⟨b, 1, none⟩ = some x1 ∧ W.cell? ⟨b, 2, none⟩ = some x2 ∧ W.cell? ⟨b, 3, none⟩ = some x3 ∧ W.cell? ⟨b, 4, none⟩ = some x4 ∧ W.cell? ⟨b, 5, none⟩ = some x5 ∧ W.cell? ⟨b, 6, none⟩ = some x6 ∧ W.cell? ⟨b, 7, none⟩ = some x7 ∧ Below w5.heap.size w5 W := by
  obtain ⟨c0, c1, c2, c3, c4, c5, c6, c7⟩ := (hx.below hb).cells
  exact ⟨c0, c1, c2, c3, c4, c5, c6, c7, hb⟩
theorem s16_keep {w5 W W' : World} {b g : Nat} {x0 x1 x2 x3 x4 x5 x6 x7 y0 y1 y2 y3 y4 y5 y6 y7 : Value} (hbl : b < w5.heap.size) (hg : g < w5.heap.size)
    (h : W.cell? ⟨b, 0, none⟩ = some x0 ∧ W.cell? ⟨b, 1, none⟩ = some x1 ∧ W.cell? ⟨b, 2, none⟩ = some x2 ∧ W.cell? ⟨b, 3, none⟩ = some x3 ∧ W.cell? ⟨b, 4, none⟩ = some x4 ∧ W.cell? ⟨b, 5, none⟩ = some x5 ∧ W.cell? ⟨b, 6, none⟩ = some x6 ∧ W.cell? ⟨b, 7, none⟩ = some x7 ∧ W.cell? ⟨g, 0, none⟩ = some y0 ∧ W.cell? ⟨g, 1, none⟩ = some y1 ∧ W.cell? ⟨g, 2, none⟩ = some y2 ∧ W.cell? ⟨g, 3, none⟩ = some y3 ∧ W.cell? ⟨g, 4, none⟩ = some y4 ∧ W.cell? ⟨g, 5, none⟩ = some y5 ∧ W.cell? ⟨g, 6, none⟩ = some y6 ∧ W.cell? ⟨g, 7, none⟩ = some y7 ∧ Below w5.heap.size w5 W) (hb : Below W.heap.size W W') :
    W'.cell? ⟨b, 0, none⟩ = some x0 ∧ W'.cell? ⟨b, 1, none⟩ = some x1 ∧ W'.cell? ⟨b, 2, none⟩ = some x2 ∧ W'.cell? ⟨b, 3, none⟩ = some x3 ∧ W'.cell? ⟨b, 4, none⟩ = some x4 ∧ W'.cell? ⟨b, 5, none⟩ = some x5 ∧ W'.cell? ⟨b, 6, none⟩ = some x6 ∧ W'.cell? ⟨b, 7, none⟩ = some x7 ∧ W'.cell? ⟨g, 0, none⟩ = some y0 ∧ W'.cell? ⟨g, 1, none⟩ = some y1 ∧ W'.cell? ⟨g, 2, none⟩ = some y2 ∧ W'.cell? ⟨g, 3, none⟩ = some y3 ∧ W'.cell? ⟨g, 4, none⟩ = some y4 ∧ W'.cell? ⟨g, 5, none⟩ = some y5 ∧ W'.cell? ⟨g, 6, none⟩ = some y6 ∧ W'.cell? ⟨g, 7, none⟩ = some y7 ∧ Below w5.heap.size w5 W' := by
  obtain ⟨h0, h1, h2, h3, h4, h5, h6, h7, k0, k1, k2, k3, k4, k5, k6, k7, h8⟩ := h
  have lb : b < W.heap.size := Nat.lt_of_lt_of_le hbl h8.size
  have lg : g < W.heap.size := Nat.lt_of_lt_of_le hg h8.size
  have cb (o : Nat) := hb.cell (p := ⟨b, o, none⟩) lb
  have cg (o : Nat) := hb.cell (p := ⟨g, o, none⟩) lg
  exact ⟨(cb _).trans h0, (cb _).trans h1, (cb _).trans h2, (cb _).trans h3, (cb _).trans h4, (cb _).trans h5, (cb _).trans h6, (cb _).trans h7, (cg _).trans k0, (cg _).trans k1, (cg _).trans k2, (cg _).trans k3, (cg _).trans k4, (cg _).trans k5, (cg _).trans k6, (cg _).trans k7, h8.trans (hb.mono h8.size)⟩
theorem s16_below {w5 W : World} {b g : Nat} {x0 x1 x2 x3 x4 x5 x6 x7 y0 y1 y2 y3 y4 y5 y6 y7 : Value}
    (h : W.cell? ⟨b, 0, none⟩ = some x0 ∧ W.cell? ⟨b, 1, none⟩ = some x1 ∧ W.cell? ⟨b, 2, none⟩ = some x2 ∧ W.cell? ⟨b, 3, none⟩ = some x3 ∧ W.cell? ⟨b, 4, none⟩ = some x4 ∧ W.cell? ⟨b, 5, none⟩ = some x5 ∧ W.cell? ⟨b, 6, none⟩ = some x6 ∧ W.cell? ⟨b, 7, none⟩ = some x7 ∧ W.cell? ⟨g, 0, none⟩ = some y0 ∧ W.cell? ⟨g, 1, none⟩ = some y1 ∧ W.cell? ⟨g, 2, none⟩ = some y2 ∧ W.cell? ⟨g, 3, none⟩ = some y3 ∧ W.cell? ⟨g, 4, none⟩ = some y4 ∧ W.cell? ⟨g, 5, none⟩ = some y5 ∧ W.cell? ⟨g, 6, none⟩ = some y6 ∧ W.cell? ⟨g, 7, none⟩ = some y7 ∧ Below w5.heap.size w5 W) : Below w5.heap.size w5 W := h.2.2.2.2.2.2.2.2.2.2.2.2.2.2.2.2
theorem s16_start {w5 W : World} {b g : Nat} {x0 x1 x2 x3 x4 x5 x6 x7 y0 y1 y2 y3 y4 y5 y6 y7 : Value} (hx : Box w5 b #[x0, x1, x2, x3, x4, x5, x6, x7]) (hy : Box w5 g #[y0, y1, y2, y3, y4, y5, y6, y7]) (hb : Below w5.heap.size w5 W) :
    W.cell? ⟨b, 0, none⟩ = some x0 ∧ W.cell? ⟨b, 1, none⟩ = some x1 ∧ W.cell? ⟨b, 2, none⟩ = some x2 ∧ W.cell? ⟨b, 3, none⟩ = some x3 ∧ W.cell? ⟨b, 4, none⟩ = some x4 ∧ W.cell? ⟨b, 5, none⟩ = some x5 ∧ W.cell? ⟨b, 6, none⟩ = some x6 ∧ W.cell? ⟨b, 7, none⟩ = some x7 ∧ W.cell? ⟨g, 0, none⟩ = some y0 ∧ W.cell? ⟨g, 1, none⟩ = some y1 ∧ W.cell? ⟨g, 2, none⟩ = some y2 ∧ W.cell? ⟨g, 3, none⟩ = some y3 ∧ W.cell? ⟨g, 4, none⟩ = some y4 ∧ W.cell? ⟨g, 5, none⟩ = some y5 ∧ W.cell? ⟨g, 6, none⟩ = some y6 ∧ W.cell? ⟨g, 7, none⟩ = some y7 ∧ Below w5.heap.size w5 W := by
  obtain ⟨c0, c1, c2, c3, c4, c5, c6, c7⟩ := (hx.below hb).cells
  obtain ⟨d0, d1, d2, d3, d4, d5, d6, d7⟩ := (hy.below hb).cells
  exact ⟨c0, c1, c2, c3, c4, c5, c6, c7, d0, d1, d2, d3, d4, d5, d6, d7, hb⟩
theorem below_one (w : World) (o : Obj) : Below w.heap.size w (w.alloc o) := (Below.refl _ _).alloc (Nat.le_refl _) _
theorem below_oned (w : World) (o : Obj) : Below w.drew.heap.size w.drew (w.drew.alloc o) := (Below.refl _ _).alloc (Nat.le_refl _) _
/-- A slice of kids, spelled. -/
theorem kids_form {w : World} {lo : Nat} {l : List Pat} {js : Value} (h : KidsN w lo l js) : ∃ a c, js = .slice a l.length c ∧ Kids w l (.slice a l.length c) := by
  obtain ⟨a, c, rfl⟩ := h.kids.len
  exact ⟨a, c, rfl, h.kids⟩
end Go.Proofs.YtooaamepflkgnaaDoor
