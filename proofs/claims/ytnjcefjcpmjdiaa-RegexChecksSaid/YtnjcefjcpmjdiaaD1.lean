/- Sets in memory, and the contracts of homographref01 that later layers' references call. No function of the program is named here. -/
import Derived.Test.YtnjcefjcpmjdiaaRows
import Derived.Test.YtnjcefjcpmjdiaaA0
import Derived.Test.YtnjcefjcpmjdiaaQA
import Derived.WalkKit
import Derived.WalkSpells
import Derived.WalkLawsBesides
import Derived.LoopN
import Derived.Lib.Hide
import Derived.OneCell
import Derived.StillTailTactics
import Derived.WalkSmall
set_option maxRecDepth 20000
namespace Go.Proofs.Ytnjcefjcpmjdiaa
open Go.RowKit

theorem ret_bool {a b : Bool} (h : a = b) : Ending.returned (.bool a) = .returned (.bool b) := by rw [h]
set_option maxHeartbeats 400000 in
theorem rhas_any (s : BitVec 256) (b : Nat) (hb : b < 256) (w : World) :
    Calls Try.prog 49 #[(.agg #[.int .u64 (wd (s) 0), .int .u64 (wd (s) 1), .int .u64 (wd (s) 2), .int .u64 (wd (s) 3)]), .int .u8 b] w fun e w' => e = .returned (.bool (s.getLsbD b)) ∧ Below w.heap.size w w' := by
  have hc := cells4 s (b / 64) (by omega)
  go_enter Try.func49, Try.ntmps49
  go_wp2
  go_ret
  exact ⟨ret_bool (by rw [has_bit]; cases s.getLsbD b <;> rfl), (Below.refl _ _).alloc (Nat.le_refl _) _⟩
/-- Block b holds the set s, and may be written. -/
def SetAt (w : World) (b : Nat) (s : BitVec 256) : Prop := w.heap[b]? = some (.cells #[.int .u64 (wd s 0), .int .u64 (wd s 1), .int .u64 (wd s 2), .int .u64 (wd s 3)] 24 (0, 0))
theorem SetAt.lt {w : World} {b : Nat} {s : BitVec 256} (h : SetAt w b s) : b < w.heap.size := lt_of_block h
theorem SetAt.cells {w : World} {b : Nat} {s : BitVec 256} (h : SetAt w b s) :
    w.cell? ⟨b, 0, none⟩ = some (.int .u64 (wd s 0)) ∧ w.cell? ⟨b, 1, none⟩ = some (.int .u64 (wd s 1)) ∧ w.cell? ⟨b, 2, none⟩ = some (.int .u64 (wd s 2)) ∧ w.cell? ⟨b, 3, none⟩ = some (.int .u64 (wd s 3)) := by
  unfold SetAt at h
  simp [World.cell?, h]
theorem SetAt.free {w : World} {b : Nat} {s : BitVec 256} (h : SetAt w b s) :
    w.frozen? ⟨b, 0, none⟩ = false ∧ w.frozen? ⟨b, 1, none⟩ = false ∧ w.frozen? ⟨b, 2, none⟩ = false ∧ w.frozen? ⟨b, 3, none⟩ = false := by
  unfold SetAt at h
  simp [World.frozen?, h]
theorem SetAt.below {w w' : World} {b B : Nat} {s : BitVec 256} (h : SetAt w b s) (hb : Below B w w') (hB : b < B) : SetAt w' b s := by
  unfold SetAt at *
  rw [hb.block b hB]; exact h
theorem SetAt.grown {w w' : World} {b : Nat} {s : BitVec 256} (h : SetAt w b s) (hb : Below w.heap.size w w') : SetAt w' b s := h.below hb h.lt
theorem SetAt.alloc {w : World} {b : Nat} {s : BitVec 256} (h : SetAt w b s) (o : Obj) : SetAt (w.alloc o) b s := h.grown ((Below.refl _ _).alloc (Nat.le_refl _) _)
theorem SetAt.other {w : World} {b : Nat} {s : BitVec 256} (h : SetAt w b s) {a : Addr} (ha : b ≠ a.block) (u : Value) : SetAt (w.setCell a u) b s := by
  unfold SetAt at *
  rw [Below.heap_setCell _ _ _ _ ha]; exact h
theorem setCell_block {w : World} {b i : Nat} {c : Array Value} {t : TypeId} {fz : Nat × Nat} (h : w.heap[b]? = some (.cells c t fz)) (u : Value) : (w.setCell ⟨b, i, none⟩ u).heap[b]? = some (.cells (c.setIfInBounds i u) t fz) := by
  have hlt := lt_of_block h
  have h' : w.heap[b] = .cells c t fz := by simpa [Array.getElem?_eq_getElem hlt] using h
  show (w.heap.modify b _)[b]? = _
  rw [Array.getElem?_eq_getElem (by simpa using hlt), Array.getElem_modify_self, h']
  rfl
theorem SetAt.store {w : World} {b : Nat} {s : BitVec 256} (h : SetAt w b s) (t : BitVec 256) :
    SetAt ((((w.setCell ⟨b, 0, none⟩ (.int .u64 (wd t 0))).setCell ⟨b, 1, none⟩ (.int .u64 (wd t 1))).setCell ⟨b, 2, none⟩ (.int .u64 (wd t 2))).setCell ⟨b, 3, none⟩ (.int .u64 (wd t 3))) b t :=
  setCell_block (setCell_block (setCell_block (setCell_block h _) _) _) _
theorem wd_zero (i : Nat) : wd 0 i = 0 := by simp [wd]
theorem SetAt.zero (w : World) : SetAt (w.alloc (.cells #[.int .u64 0, .int .u64 0, .int .u64 0, .int .u64 0] 24)) w.heap.size 0 := by
  unfold SetAt
  rw [wd_zero, wd_zero, wd_zero, wd_zero]
  show (w.heap.push _)[w.heap.size]? = _
  simp
theorem SetAt.new (w : World) (s : BitVec 256) : SetAt (w.alloc (.cells #[.int .u64 (wd s 0), .int .u64 (wd s 1), .int .u64 (wd s 2), .int .u64 (wd s 3)] 24)) w.heap.size s := by
  unfold SetAt
  show (w.heap.push _)[w.heap.size]? = _
  simp

/-- A set stored into block b of one's own. -/
theorem below_set4 {B b : Nat} {a w : World} (h : Below B a w) (hb : B ≤ b) (v0 v1 v2 v3 : Value) :
    Below B a ((((w.setCell ⟨b, 0, none⟩ v0).setCell ⟨b, 1, none⟩ v1).setCell ⟨b, 2, none⟩ v2).setCell ⟨b, 3, none⟩ v3) :=
  (((h.setCell (p := ⟨b, 0, none⟩) hb _).setCell (p := ⟨b, 1, none⟩) hb _).setCell (p := ⟨b, 2, none⟩) hb _).setCell (p := ⟨b, 3, none⟩) hb _
theorem SetAt.other4 {w : World} {c b : Nat} {s : BitVec 256} (h : SetAt w c s) (hb : c ≠ b) (v0 v1 v2 v3 : Value) :
    SetAt ((((w.setCell ⟨b, 0, none⟩ v0).setCell ⟨b, 1, none⟩ v1).setCell ⟨b, 2, none⟩ v2).setCell ⟨b, 3, none⟩ v3) c s :=
  (((h.other (a := ⟨b, 0, none⟩) hb _).other (a := ⟨b, 1, none⟩) hb _).other (a := ⟨b, 2, none⟩) hb _).other (a := ⟨b, 3, none⟩) hb _
theorem num_succ (k : Nat) : Value.int IntKind.i64 (↑k + 1) = Value.int IntKind.i64 ↑(k + 1) := by simp

/-- The bytes from lo up to hi. -/
def rangeP (lo hi : Nat) : Nat → Bool := fun b => decide (lo ≤ b) && decide (b ≤ hi)
theorem range_start (lo hi : Nat) : ∀ k, k ≤ lo → upTo (rangeP lo hi) k = 0
  | 0, _ => rfl
  | k + 1, h => by
    rw [upTo, range_start lo hi k (by omega)]
    have : rangeP lo hi k = false := by unfold rangeP; simp; omega
    rw [this]; rfl
theorem range_step (lo hi k : Nat) (h1 : lo ≤ k) (h2 : k ≤ hi) : put (upTo (rangeP lo hi) k) k = upTo (rangeP lo hi) (k + 1) := by
  have : rangeP lo hi k = true := by unfold rangeP; simp; omega
  rw [upTo, this]; rfl
theorem range_end (lo hi k : Nat) (h1 : hi < k) (h2 : k ≤ 256) : upTo (rangeP lo hi) k = ofP (rangeP lo hi) := by
  apply bv_ext
  intro b hb
  rw [get_ofP _ _ hb, get_upTo _ _ _ h2]
  unfold rangeP
  by_cases h : b < k
  · simp [h]
  · have : ¬ b ≤ hi := by omega
    simp [this]
theorem atStart_two {w : World} : SetAt ((w.alloc (.cells #[.int .u64 0, .int .u64 0, .int .u64 0, .int .u64 0] 24)).alloc (.cells #[.int .u64 0, .int .u64 0, .int .u64 0, .int .u64 0] 24)) (w.heap.size + 1) 0 ∧ SetAt ((w.alloc (.cells #[.int .u64 0, .int .u64 0, .int .u64 0, .int .u64 0] 24)).alloc (.cells #[.int .u64 0, .int .u64 0, .int .u64 0, .int .u64 0] 24)) w.heap.size 0 ∧
    Below w.heap.size w ((w.alloc (.cells #[.int .u64 0, .int .u64 0, .int .u64 0, .int .u64 0] 24)).alloc (.cells #[.int .u64 0, .int .u64 0, .int .u64 0, .int .u64 0] 24)) := by
  refine ⟨?_, (SetAt.zero w).alloc _, ((Below.refl _ _).alloc (Nat.le_refl _) _).alloc (by simp) _⟩
  have := SetAt.zero (w.alloc (.cells #[.int .u64 0, .int .u64 0, .int .u64 0, .int .u64 0] 24))
  simpa using this
set_option maxHeartbeats 400000 in
theorem rwith_any (s : BitVec 256) (b : Nat) (hb : b < 256) (w : World) :
    Calls Try.prog 35 #[(.agg #[.int .u64 (wd (s) 0), .int .u64 (wd (s) 1), .int .u64 (wd (s) 2), .int .u64 (wd (s) 3)]), .int .u8 b] w fun e w' => e = .returned (.agg #[.int .u64 (wd (put s b) 0), .int .u64 (wd (put s b) 1), .int .u64 (wd (put s b) 2), .int .u64 (wd (put s b) 3)]) ∧ Below w.heap.size w w' := by
  have hp := wd_put s b hb
  have hq (i : Nat) (h : b / 64 ≠ i) := (wd_put_ne s b i hb h).symm
  have hj : b / 64 = 0 ∨ b / 64 = 1 ∨ b / 64 = 2 ∨ b / 64 = 3 := by omega
  rcases hj with h | h | h | h
  all_goals
    rw [h] at hp
    have q0 := hq 0; have q1 := hq 1; have q2 := hq 2; have q3 := hq 3
    clear hq
    rw [h] at q0 q1 q2 q3
    simp at q0 q1 q2 q3
    go_enter Try.func35, Try.ntmps35
    go_wp2
    refine bodyPost_ret (v := (.agg #[.int .u64 (wd (put s b) 0), .int .u64 (wd (put s b) 1), .int .u64 (wd (put s b) 2), .int .u64 (wd (put s b) 3)])) (by simp [results, Try.results35, go_sem]) rfl ⟨rfl, ?_⟩
    exact ((Below.refl _ _).alloc (Nat.le_refl _) _).alloc (by simp) _
set_option maxHeartbeats 1000000 in
theorem rrange_any (lo hi : Nat) (hlo : lo < 256) (hhi : hi < 256) (w : World) :
    Calls Try.prog 36 #[.int .u8 lo, .int .u8 hi] w fun e w' => e = .returned (.agg #[.int .u64 (wd (ofP (rangeP lo hi)) 0), .int .u64 (wd (ofP (rangeP lo hi)) 1), .int .u64 (wd (ofP (rangeP lo hi)) 2), .int .u64 (wd (ofP (rangeP lo hi)) 3)]) ∧ Below w.heap.size w w' := by
  go_enter Try.func36, Try.ntmps36
  go_wp2
  go_loopw [6] (fun i wr => ∃ k : Nat, lo ≤ k ∧ (k ≤ hi + 1 ∨ k = lo) ∧ i = .int .i64 k ∧ SetAt wr (w.heap.size + 1) (upTo (rangeP lo hi) k) ∧ SetAt wr w.heap.size 0 ∧ Below w.heap.size w wr) (fun i _ => 256 - (intOf i).toNat)
  case atStart =>
    obtain ⟨h1, h2, h3⟩ := @atStart_two w
    exact ⟨lo, Nat.le_refl _, .inr rfl, rfl, by rw [range_start lo hi lo (Nat.le_refl _)]; exact h1, h2, h3⟩
  case round =>
    obtain ⟨k, hk, hk2, rfl, hs, hz, hbw⟩ := hrel
    by_cases hlt : k ≤ hi
    · obtain ⟨c0, c1, c2, c3⟩ := hs.cells
      have hst := range_step lo hi k hk hlt
      rw [range_step lo hi k hk hlt] at hst
      go_wp2_with (go_at_call 35; refine (rwith_any _ k (by omega) _).mono ?_; rintro e w' ⟨rfl, hb1⟩; obtain ⟨d0, d1, d2, d3⟩ := (hs.grown hb1).cells; obtain ⟨g0, g1, g2, g3⟩ := (hs.grown hb1).free)
      go_roundw
      case rel =>
        refine ⟨k + 1, by omega, by omega, num_succ k, ?_, (hz.grown hb1).other4 (by omega) _ _ _ _, below_set4 (hbw.trans (hb1.mono hbw.size)) (by omega) _ _ _ _⟩
        rw [range_step lo hi k hk hlt]
        exact (hs.grown hb1).store _
      case measure => simp [intOf]; omega
    · obtain ⟨c0, c1, c2, c3⟩ := hs.cells
      obtain ⟨d0, d1, d2, d3⟩ := hz.cells
      obtain ⟨g0, g1, g2, g3⟩ := hz.free
      have he := range_end lo hi k (by omega) (by omega)
      rw [he] at c0 c1 c2 c3
      clear he
      go_wp2
      refine bodyPost_ret (v := (.agg #[.int .u64 (wd (ofP (rangeP lo hi)) 0), .int .u64 (wd (ofP (rangeP lo hi)) 1), .int .u64 (wd (ofP (rangeP lo hi)) 2), .int .u64 (wd (ofP (rangeP lo hi)) 3)])) (by simp [results, Try.results36, go_sem, *]) rfl ⟨rfl, ?_⟩
      exact below_set4 hbw (Nat.le_refl _) _ _ _ _
/-- The set of a row of bytes. -/
def ofB (l : List UInt8) : BitVec 256 := ofP (fun b => l.any (fun c => c.toNat == b))
theorem ofB_nil : ofB [] = 0 := by
  apply bv_ext
  intro b hb
  unfold ofB
  rw [get_ofP _ _ hb]
  simp
theorem ofB_snoc (l : List UInt8) (c : UInt8) : put (ofB l) c.toNat = ofB (l ++ [c]) := by
  apply bv_ext
  intro b hb
  have hc : c.toNat < 256 := c.toNat_lt
  rw [get_put _ _ _ hc]
  unfold ofB
  rw [get_ofP _ _ hb, get_ofP _ _ hb, List.any_append]
  have e : (c.toNat == b) = decide (b = c.toNat) := by rw [Bool.eq_iff_iff, beq_iff_eq, decide_eq_true_iff]; exact eq_comm
  simp [e]
theorem take_snoc (s : ByteArray) (k : Nat) (h : k < s.size) : s.data.toList.take (k + 1) = s.data.toList.take k ++ [s[k]] := by
  rw [List.take_succ_eq_append_getElem (by simpa using h)]; rfl
set_option maxHeartbeats 1000000 in
theorem rof_any (s : ByteArray) (w : World) (hlen : s.size ≤ maxLen) :
    Calls Try.prog 34 #[.string s] w fun e w' => e = .returned (.agg #[.int .u64 (wd (ofB s.data.toList) 0), .int .u64 (wd (ofB s.data.toList) 1), .int .u64 (wd (ofB s.data.toList) 2), .int .u64 (wd (ofB s.data.toList) 3)]) ∧ Below w.heap.size w w' := by
  unfold maxLen at hlen
  go_enter Try.func34, Try.ntmps34
  go_wp2
  go_loopw [4] (fun i wr => ∃ k : Nat, k ≤ s.size ∧ i = .int .i64 k ∧ SetAt wr (w.heap.size + 1) (ofB (s.data.toList.take k)) ∧ SetAt wr w.heap.size 0 ∧ Below w.heap.size w wr) (fun i _ => s.size - (intOf i).toNat)
  case atStart =>
    obtain ⟨h1, h2, h3⟩ := @atStart_two w
    exact ⟨0, by omega, rfl, by rw [List.take_zero, ofB_nil]; exact h1, h2, h3⟩
  case round =>
    obtain ⟨k, hk, rfl, hs, hz, hbw⟩ := hrel
    by_cases hlt : k < s.size
    · obtain ⟨c0, c1, c2, c3⟩ := hs.cells
      go_wp2_with fail
      go_still_tail 4, (by kernel_rfl)
      change wpList _ _ _ _ _ wr.drew
      obtain ⟨w2, hw2⟩ : ∃ w2, w2 = wr.drew := ⟨_, rfl⟩
      have hs2 : SetAt w2 (w.heap.size + 1) (ofB (s.data.toList.take k)) := by rw [hw2]; exact hs
      have hz2 : SetAt w2 w.heap.size 0 := by rw [hw2]; exact hz
      have hbw2 : Below w.heap.size w w2 := by rw [hw2]; exact hbw.drew
      rw [← hw2]
      clear hw2 hs hz hbw c0 c1 c2 c3
      go_wp2_with (go_at_call 35; refine (rwith_any _ _ (UInt8.toNat_lt _) _).mono ?_; rintro e w' ⟨rfl, hb1⟩; obtain ⟨d0, d1, d2, d3⟩ := (hs2.grown hb1).cells; obtain ⟨g0, g1, g2, g3⟩ := (hs2.grown hb1).free)
      go_roundw
      case rel =>
        refine ⟨k + 1, by omega, num_succ k, ?_, (hz2.grown hb1).other4 (by omega) _ _ _ _, below_set4 (hbw2.trans (hb1.mono hbw2.size)) (by omega) _ _ _ _⟩
        rw [take_snoc s k hlt, ← ofB_snoc]
        exact (hs2.grown hb1).store _
      case measure => simp [intOf]; omega
    · obtain ⟨c0, c1, c2, c3⟩ := hs.cells
      obtain ⟨d0, d1, d2, d3⟩ := hz.cells
      obtain ⟨g0, g1, g2, g3⟩ := hz.free
      have he : s.data.toList.take k = s.data.toList := List.take_of_length_le (by simp; omega)
      rw [he] at c0 c1 c2 c3
      clear he
      go_wp2
      refine bodyPost_ret (v := (.agg #[.int .u64 (wd (ofB s.data.toList) 0), .int .u64 (wd (ofB s.data.toList) 1), .int .u64 (wd (ofB s.data.toList) 2), .int .u64 (wd (ofB s.data.toList) 3)])) (by simp [results, Try.results34, go_sem, *]) rfl ⟨rfl, ?_⟩
      exact below_set4 hbw (Nat.le_refl _) _ _ _ _
/-- From block b, place off on, the sets l lie one behind the other. -/
def SetsAt (w : World) (b off : Nat) (l : List (BitVec 256)) : Prop := b < w.heap.size ∧ ∀ i (_ : i < l.length), ∀ j, j < 4 → w.cell? ⟨b, off + i * 4 + j, none⟩ = some (.int .u64 (wd l[i] j))
/-- The slice value v reads as l. -/
def Sl (w : World) (v : Value) (l : List (BitVec 256)) : Prop := l.length ≤ maxLen ∧ ((l = [] ∧ ∃ a cap, v = .slice a 0 cap) ∨ ∃ b off cap, v = .slice (some ⟨b, off, none⟩) l.length cap ∧ SetsAt w b off l)
theorem SetsAt.below {w w' : World} {b off : Nat} {l : List (BitVec 256)} (h : SetsAt w b off l) (hb : Below w.heap.size w w') : SetsAt w' b off l :=
  ⟨Nat.lt_of_lt_of_le h.1 hb.size, fun i hi j hj => by rw [hb.cell (p := ⟨b, _, none⟩) h.1]; exact h.2 i hi j hj⟩
theorem SetsAt.lower {w w' : World} {b off B : Nat} {l : List (BitVec 256)} (h : SetsAt w b off l) (hb : Below B w w') (hB : b < B) : SetsAt w' b off l :=
  ⟨Nat.lt_of_lt_of_le h.1 hb.size, fun i hi j hj => by rw [hb.cell (p := ⟨b, _, none⟩) hB]; exact h.2 i hi j hj⟩
theorem Sl.below {w w' : World} {v : Value} {l : List (BitVec 256)} (h : Sl w v l) (hb : Below w.heap.size w w') : Sl w' v l := by
  rcases h with ⟨h0, h | ⟨b, off, cap, hv, h⟩⟩
  · exact ⟨h0, .inl h⟩
  · exact ⟨h0, .inr ⟨b, off, cap, hv, h.below hb⟩⟩
theorem SetsAt.cells {w : World} {b off : Nat} {l : List (BitVec 256)} (h : SetsAt w b off l) (i : Nat) (hi : i < l.length) :
    w.cell? ⟨b, off + i * 4, none⟩ = some (.int .u64 (wd l[i] 0)) ∧ w.cell? ⟨b, off + i * 4 + 1, none⟩ = some (.int .u64 (wd l[i] 1)) ∧ w.cell? ⟨b, off + i * 4 + 1 + 1, none⟩ = some (.int .u64 (wd l[i] 2)) ∧ w.cell? ⟨b, off + i * 4 + 1 + 1 + 1, none⟩ = some (.int .u64 (wd l[i] 3)) :=
  ⟨h.2 i hi 0 (by omega), h.2 i hi 1 (by omega), h.2 i hi 2 (by omega), h.2 i hi 3 (by omega)⟩
/-- What one of them has. -/
def unionL (l : List (BitVec 256)) : BitVec 256 := l.foldl (· ||| ·) 0
theorem union_snoc (l : List (BitVec 256)) (x : BitVec 256) : unionL (l ++ [x]) = unionL l ||| x := by simp [unionL]
theorem union_nil_wd (i : Nat) : wd (unionL []) i = 0 := wd_zero i
set_option maxHeartbeats 2000000 in
theorem runion_any (v : Value) (l : List (BitVec 256)) (w : World) (hv : Sl w v l) :
    Calls Try.prog 33 #[v] w fun e w' => e = .returned (.agg #[.int .u64 (wd (unionL l) 0), .int .u64 (wd (unionL l) 1), .int .u64 (wd (unionL l) 2), .int .u64 (wd (unionL l) 3)]) ∧ Below w.heap.size w w' := by
  obtain ⟨hlen, hv⟩ := hv
  unfold maxLen at hlen
  rcases hv with ⟨rfl, a, cap, rfl⟩ | ⟨b, off, cap, rfl, hl⟩
  · go_enter Try.func33, Try.ntmps33
    go_wp2
    refine wp_loop_rounds 1 ?_
    rw [rounds_succ]; go_wp2
    refine bodyPost_ret (v := (.agg #[.int .u64 (wd (unionL []) 0), .int .u64 (wd (unionL []) 1), .int .u64 (wd (unionL []) 2), .int .u64 (wd (unionL []) 3)])) (by simp [results, Try.results33, go_sem, union_nil_wd]) rfl ⟨rfl, ?_⟩
    exact ((Below.refl _ _).alloc (Nat.le_refl _) _).alloc (by simp) _
  · go_enter Try.func33, Try.ntmps33
    go_wp2
    go_loopw [4, 5] (fun i _ wr => ∃ k : Nat, k ≤ l.length ∧ i = .int .i64 k ∧ SetAt wr w.heap.size 0 ∧ SetAt wr (w.heap.size + 1) (unionL (l.take k)) ∧ Below w.heap.size w wr) (fun i _ _ => l.length - (intOf i).toNat)
    case atStart =>
      obtain ⟨h1, h2, h3⟩ := @atStart_two w
      exact ⟨0, by omega, rfl, h2, h1, h3⟩
    case round =>
      obtain ⟨k, hk, rfl, hz, hs, hbw⟩ := hrel
      by_cases hlt : k < l.length
      · have HN : Hid (unionL (l.take (k + 1)) = unionL (l.take k) ||| l[k]) := by rw [Hid, List.take_succ_eq_append_getElem hlt, union_snoc]
        have hs' : SetAt wr (w.heap.size + 1) (orTo (unionL (l.take k)) l[k] 0) := by rw [orTo_zero]; exact hs
        generalize unionL (l.take k) = u at *
        clear hs
        obtain ⟨wo, hwo⟩ : ∃ wo : World, wo = wr := ⟨_, rfl⟩
        rw [← hwo] at hz hs' hbw ⊢
        clear hwo
        go_wp2
        go_loopw [5] (fun i wr => ∃ m : Nat, m ≤ 256 ∧ i = .int .i64 m ∧ SetAt wr w.heap.size 0 ∧ SetAt wr (w.heap.size + 1) (orTo u l[k] m) ∧ Below w.heap.size w wr) (fun i _ => 256 - (intOf i).toNat)
        case atStart => exact ⟨0, by omega, rfl, hz, hs', hbw⟩
        case round =>
          obtain ⟨m, hm, rfl, hz, hs, hbw⟩ := hrel
          clear hs'
          by_cases hlt2 : m < 256
          · obtain ⟨e0, e1, e2, e3⟩ := (hl.lower hbw hl.1).cells k hlt
            generalize hx : l[k] = x at *
            have HX := Lib.hid hx
            clear hx
            cases hbit : x.getLsbD m
            · have HO := Lib.hid (orTo_no u x m hbit)
              have HB := Lib.hid hbit
              clear hbit
              go_wp2_with (go_at_call 49; refine (rhas_any x m hlt2 _).mono ?_; rw [HB.out]; rintro e w2 ⟨rfl, hb2⟩)
              go_roundw
              case rel => exact ⟨m + 1, by omega, num_succ m, hz.grown hb2, by rw [HO.out]; exact hs.grown hb2, hbw.trans (hb2.mono hbw.size)⟩
              case measure => simp [intOf]; omega
            · have HO := Lib.hid (orTo_yes u x m hlt2 hbit)
              have HB := Lib.hid hbit
              clear hbit
              generalize orTo u x m = y at *
              go_wp2_with (first
                | (go_at_call 49; refine (rhas_any x m hlt2 _).mono ?_; rw [HB.out]; rintro e w2 ⟨rfl, hb2⟩; obtain ⟨c0, c1, c2, c3⟩ := (hs.grown hb2).cells)
                | (go_at_call 35; refine (rwith_any y m hlt2 _).mono ?_; rintro e w3 ⟨rfl, hb3⟩; have hs3 := (hs.grown hb2).grown hb3; obtain ⟨c0, c1, c2, c3⟩ := hs3.cells; obtain ⟨f0, f1, f2, f3⟩ := hs3.free))
              go_roundw
              case rel =>
                have hb23 := hb2.trans (hb3.mono hb2.size)
                exact ⟨m + 1, by omega, num_succ m, (hz.grown hb23).other4 (by omega) _ _ _ _, by rw [HO.out]; exact hs3.store _, below_set4 (hbw.trans (hb23.mono hbw.size)) (by omega) _ _ _ _⟩
              case measure => simp [intOf]; omega
          · obtain rfl : m = 256 := by omega
            rw [orTo_end] at hs
            go_wp2
            go_roundw
            case rel => exact ⟨k + 1, by omega, num_succ k, hz, by rw [HN.out]; exact hs, hbw⟩
            case measure => simp [intOf]; omega
      · obtain rfl : k = l.length := by omega
        rw [List.take_length] at hs
        obtain ⟨c0, c1, c2, c3⟩ := hs.cells
        obtain ⟨d0, d1, d2, d3⟩ := hz.cells
        obtain ⟨g0, g1, g2, g3⟩ := hz.free
        go_wp2
        refine bodyPost_ret (v := (.agg #[.int .u64 (wd (unionL l) 0), .int .u64 (wd (unionL l) 1), .int .u64 (wd (unionL l) 2), .int .u64 (wd (unionL l) 3)])) (by simp [results, Try.results33, go_sem, *]) rfl ⟨rfl, ?_⟩
        exact below_set4 hbw (by omega) _ _ _ _
end Go.Proofs.Ytnjcefjcpmjdiaa
