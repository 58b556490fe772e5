/- Texts that a proof rests on: A set in a block of its own; contracts of the loops that fill one. -/
import Derived.Test.YtpfhhdiipedklaaDoorK02
import Derived.OneCell
set_option maxRecDepth 20000
namespace Go.Proofs.YtpfhhdiipedklaaDoor
open Go.RowKit

/-- Block b holds the set s, and may be written. -/
def SetAt (w : World) (b : Nat) (s : BitVec 256) : Prop := w.heap[b]? = some (.cells #[.int .u64 (wd s 0), .int .u64 (wd s 1), .int .u64 (wd s 2), .int .u64 (wd s 3)] 33 (0, 0))
theorem SetAt.lt {w : World} {b : Nat} {s : BitVec 256} (h : SetAt w b s) : b < w.heap.size := lt_of_block h
theorem SetAt.cells {w : World} {b : Nat} {s : BitVec 256} (h : SetAt w b s) :
    w.cell? ⟨b, 0, none⟩ = some (.int .u64 (wd s 0)) ∧ w.cell? ⟨b, 1, none⟩ = some (.int .u64 (wd s 1)) ∧ w.cell? ⟨b, 2, none⟩ = some (.int .u64 (wd s 2)) ∧ w.cell? ⟨b, 3, none⟩ = some (.int .u64 (wd s 3)) := by
  unfold SetAt at h
  simp [World.cell?, h]
theorem SetAt.free {w : World} {b : Nat} {s : BitVec 256} (h : SetAt w b s) :
    w.frozen? ⟨b, 0, none⟩ = false ∧ w.frozen? ⟨b, 1, none⟩ = false ∧ w.frozen? ⟨b, 2, none⟩ = false ∧ w.frozen? ⟨b, 3, none⟩ = false := by
  unfold SetAt at h
  simp [World.frozen?, h]
theorem SetAt.below {w w' : World} {b B : Nat} {s : BitVec 256} (h : SetAt w b s) (hb : Below B w w') (hB : b < B) : SetAt w' b s := by
  unfold SetAt at *
  rw [hb.block b hB]; exact h
theorem SetAt.grown {w w' : World} {b : Nat} {s : BitVec 256} (h : SetAt w b s) (hb : Below w.heap.size w w') : SetAt w' b s := h.below hb h.lt
theorem SetAt.alloc {w : World} {b : Nat} {s : BitVec 256} (h : SetAt w b s) (o : Obj) : SetAt (w.alloc o) b s := h.grown ((Below.refl _ _).alloc (Nat.le_refl _) _)
theorem SetAt.other {w : World} {b : Nat} {s : BitVec 256} (h : SetAt w b s) {a : Addr} (ha : b ≠ a.block) (u : Value) : SetAt (w.setCell a u) b s := by
  unfold SetAt at *
  rw [Below.heap_setCell _ _ _ _ ha]; exact h
theorem setCell_block {w : World} {b i : Nat} {c : Array Value} {t : TypeId} {fz : Nat × Nat} (h : w.heap[b]? = some (.cells c t fz)) (u : Value) : (w.setCell ⟨b, i, none⟩ u).heap[b]? = some (.cells (c.setIfInBounds i u) t fz) := by
  have hlt := lt_of_block h
  have h' : w.heap[b] = .cells c t fz := by simpa [Array.getElem?_eq_getElem hlt] using h
  show (w.heap.modify b _)[b]? = _
  rw [Array.getElem?_eq_getElem (by simpa using hlt), Array.getElem_modify_self, h']
  rfl
theorem SetAt.store {w : World} {b : Nat} {s : BitVec 256} (h : SetAt w b s) (t : BitVec 256) :
    SetAt ((((w.setCell ⟨b, 0, none⟩ (.int .u64 (wd t 0))).setCell ⟨b, 1, none⟩ (.int .u64 (wd t 1))).setCell ⟨b, 2, none⟩ (.int .u64 (wd t 2))).setCell ⟨b, 3, none⟩ (.int .u64 (wd t 3))) b t :=
  setCell_block (setCell_block (setCell_block (setCell_block h _) _) _) _
theorem wd_zero (i : Nat) : wd 0 i = 0 := by simp [wd]
theorem SetAt.zero (w : World) : SetAt (w.alloc (.cells #[.int .u64 0, .int .u64 0, .int .u64 0, .int .u64 0] 33)) w.heap.size 0 := by
  unfold SetAt
  rw [wd_zero, wd_zero, wd_zero, wd_zero]
  show (w.heap.push _)[w.heap.size]? = _
  simp
theorem SetAt.new (w : World) (s : BitVec 256) : SetAt (w.alloc (.cells #[.int .u64 (wd s 0), .int .u64 (wd s 1), .int .u64 (wd s 2), .int .u64 (wd s 3)] 33)) w.heap.size s := by
  unfold SetAt
  show (w.heap.push _)[w.heap.size]? = _
  simp

/-- A set stored into block b of one's own. -/
theorem below_set4 {B b : Nat} {a w : World} (h : Below B a w) (hb : B ≤ b) (v0 v1 v2 v3 : Value) :
    Below B a ((((w.setCell ⟨b, 0, none⟩ v0).setCell ⟨b, 1, none⟩ v1).setCell ⟨b, 2, none⟩ v2).setCell ⟨b, 3, none⟩ v3) :=
  (((h.setCell (p := ⟨b, 0, none⟩) hb _).setCell (p := ⟨b, 1, none⟩) hb _).setCell (p := ⟨b, 2, none⟩) hb _).setCell (p := ⟨b, 3, none⟩) hb _
theorem SetAt.other4 {w : World} {c b : Nat} {s : BitVec 256} (h : SetAt w c s) (hb : c ≠ b) (v0 v1 v2 v3 : Value) :
    SetAt ((((w.setCell ⟨b, 0, none⟩ v0).setCell ⟨b, 1, none⟩ v1).setCell ⟨b, 2, none⟩ v2).setCell ⟨b, 3, none⟩ v3) c s :=
  (((h.other (a := ⟨b, 0, none⟩) hb _).other (a := ⟨b, 1, none⟩) hb _).other (a := ⟨b, 2, none⟩) hb _).other (a := ⟨b, 3, none⟩) hb _
theorem num_succ (k : Nat) : Value.int IntKind.i64 (↑k + 1) = Value.int IntKind.i64 ↑(k + 1) := by simp

/-- The bytes from lo up to hi. -/
def rangeP (lo hi : Nat) : Nat → Bool := fun b => decide (lo ≤ b) && decide (b ≤ hi)
theorem range_start (lo hi : Nat) : ∀ k, k ≤ lo → upTo (rangeP lo hi) k = 0
  | 0, _ => rfl
  | k + 1, h => by
    rw [upTo, range_start lo hi k (by omega)]
    have : rangeP lo hi k = false := by unfold rangeP; simp; omega
    rw [this]; rfl
theorem range_step (lo hi k : Nat) (h1 : lo ≤ k) (h2 : k ≤ hi) : put (upTo (rangeP lo hi) k) k = upTo (rangeP lo hi) (k + 1) := by
  have : rangeP lo hi k = true := by unfold rangeP; simp; omega
  rw [upTo, this]; rfl
theorem range_end (lo hi k : Nat) (h1 : hi < k) (h2 : k ≤ 256) : upTo (rangeP lo hi) k = ofP (rangeP lo hi) := by
  apply bv_ext
  intro b hb
  rw [get_ofP _ _ hb, get_upTo _ _ _ h2]
  unfold rangeP
  by_cases h : b < k
  · simp [h]
  · have : ¬ b ≤ hi := by omega
    simp [this]
theorem atStart_two {w : World} : SetAt ((w.alloc (.cells #[.int .u64 0, .int .u64 0, .int .u64 0, .int .u64 0] 33)).alloc (.cells #[.int .u64 0, .int .u64 0, .int .u64 0, .int .u64 0] 33)) (w.heap.size + 1) 0 ∧ SetAt ((w.alloc (.cells #[.int .u64 0, .int .u64 0, .int .u64 0, .int .u64 0] 33)).alloc (.cells #[.int .u64 0, .int .u64 0, .int .u64 0, .int .u64 0] 33)) w.heap.size 0 ∧
    Below w.heap.size w ((w.alloc (.cells #[.int .u64 0, .int .u64 0, .int .u64 0, .int .u64 0] 33)).alloc (.cells #[.int .u64 0, .int .u64 0, .int .u64 0, .int .u64 0] 33)) := by
  refine ⟨?_, (SetAt.zero w).alloc _, ((Below.refl _ _).alloc (Nat.le_refl _) _).alloc (by simp) _⟩
  have := SetAt.zero (w.alloc (.cells #[.int .u64 0, .int .u64 0, .int .u64 0, .int .u64 0] 33))
  simpa using this
set_option maxHeartbeats 400000 in
theorem rwith_any (s : BitVec 256) (b : Nat) (hb : b < 256) (w : World) :
    Calls Tryd.prog 38 #[(.agg #[.int .u64 (wd (s) 0), .int .u64 (wd (s) 1), .int .u64 (wd (s) 2), .int .u64 (wd (s) 3)]), .int .u8 b] w fun e w' => e = .returned (.agg #[.int .u64 (wd (put s b) 0), .int .u64 (wd (put s b) 1), .int .u64 (wd (put s b) 2), .int .u64 (wd (put s b) 3)]) ∧ Below w.heap.size w w' := by
  have hp := wd_put s b hb
  have hq (i : Nat) (h : b / 64 ≠ i) := (wd_put_ne s b i hb h).symm
  have hj : b / 64 = 0 ∨ b / 64 = 1 ∨ b / 64 = 2 ∨ b / 64 = 3 := by omega
  rcases hj with h | h | h | h
  all_goals
    rw [h] at hp
    have q0 := hq 0; have q1 := hq 1; have q2 := hq 2; have q3 := hq 3
    clear hq
    rw [h] at q0 q1 q2 q3
    simp at q0 q1 q2 q3
    go_enter Tryd.func38, Tryd.ntmps38
    go_wp2
    refine bodyPost_ret (v := (.agg #[.int .u64 (wd (put s b) 0), .int .u64 (wd (put s b) 1), .int .u64 (wd (put s b) 2), .int .u64 (wd (put s b) 3)])) (by simp [results, Tryd.results38, go_sem]) rfl ⟨rfl, ?_⟩
    exact ((Below.refl _ _).alloc (Nat.le_refl _) _).alloc (by simp) _
set_option maxHeartbeats 1000000 in
theorem rrange_any (lo hi : Nat) (hlo : lo < 256) (hhi : hi < 256) (w : World) :
    Calls Tryd.prog 54 #[.int .u8 lo, .int .u8 hi] w fun e w' => e = .returned (.agg #[.int .u64 (wd (ofP (rangeP lo hi)) 0), .int .u64 (wd (ofP (rangeP lo hi)) 1), .int .u64 (wd (ofP (rangeP lo hi)) 2), .int .u64 (wd (ofP (rangeP lo hi)) 3)]) ∧ Below w.heap.size w w' := by
  go_enter Tryd.func54, Tryd.ntmps54
  go_wp2
  go_loopw [6] (fun i wr => ∃ k : Nat, lo ≤ k ∧ (k ≤ hi + 1 ∨ k = lo) ∧ i = .int .i64 k ∧ SetAt wr (w.heap.size + 1) (upTo (rangeP lo hi) k) ∧ SetAt wr w.heap.size 0 ∧ Below w.heap.size w wr) (fun i _ => 256 - (intOf i).toNat)
  case atStart =>
    obtain ⟨h1, h2, h3⟩ := @atStart_two w
    exact ⟨lo, Nat.le_refl _, .inr rfl, rfl, by rw [range_start lo hi lo (Nat.le_refl _)]; exact h1, h2, h3⟩
  case round =>
    obtain ⟨k, hk, hk2, rfl, hs, hz, hbw⟩ := hrel
    by_cases hlt : k ≤ hi
    · obtain ⟨c0, c1, c2, c3⟩ := hs.cells
      have hst := range_step lo hi k hk hlt
      rw [range_step lo hi k hk hlt] at hst
      go_wp2_with (go_at_call 38; refine (rwith_any _ k (by omega) _).mono ?_; rintro e w' ⟨rfl, hb1⟩; obtain ⟨d0, d1, d2, d3⟩ := (hs.grown hb1).cells; obtain ⟨g0, g1, g2, g3⟩ := (hs.grown hb1).free)
      go_roundw
      case rel =>
        refine ⟨k + 1, by omega, by omega, num_succ k, ?_, (hz.grown hb1).other4 (by omega) _ _ _ _, below_set4 (hbw.trans (hb1.mono hbw.size)) (by omega) _ _ _ _⟩
        rw [range_step lo hi k hk hlt]
        exact (hs.grown hb1).store _
      case measure => simp [intOf]; omega
    · obtain ⟨c0, c1, c2, c3⟩ := hs.cells
      obtain ⟨d0, d1, d2, d3⟩ := hz.cells
      obtain ⟨g0, g1, g2, g3⟩ := hz.free
      have he := range_end lo hi k (by omega) (by omega)
      rw [he] at c0 c1 c2 c3
      clear he
      go_wp2
      refine bodyPost_ret (v := (.agg #[.int .u64 (wd (ofP (rangeP lo hi)) 0), .int .u64 (wd (ofP (rangeP lo hi)) 1), .int .u64 (wd (ofP (rangeP lo hi)) 2), .int .u64 (wd (ofP (rangeP lo hi)) 3)])) (by simp [results, Tryd.results54, go_sem, *]) rfl ⟨rfl, ?_⟩
      exact below_set4 hbw (Nat.le_refl _) _ _ _ _
end Go.Proofs.YtpfhhdiipedklaaDoor
