/- Texts that a proof rests on: Contract of pattern's parser: a class. -/
import Derived.Test.YtkpfpegjapddfaaGreatDoorK15
import Derived.Test.YtkpfpegjapddfaaGreatDoorK09
import Derived.RegionDies
set_option maxRecDepth 20000
namespace Go.Proofs.YtkpfpegjapddfaaGreatDoor
open Go.RowKit

/-- The parts of a class, and its end. -/
def classR : Nat → List UInt8 → BitVec 256 → Except Nat (BitVec 256 × Nat)
  | 0, _, _ => .error 0
  | f + 1, l, a => if seesB l 93 = true then .ok (a, 1) else match elemR l with
    | .error d => .error d
    | .ok (p, n) => match classR f (l.drop n) (a ||| ofP (rangeP p.1 p.2)) with
      | .error d => .error (n + d)
      | .ok (b, k) => .ok (b, n + k)
def shiftR {α : Type} (d : Nat) : Except Nat (α × Nat) → Except Nat (α × Nat)
  | .error e => .error (d + e)
  | .ok (v, n) => .ok (v, d + n)
theorem shiftR_zero {α : Type} (r : Except Nat (α × Nat)) : shiftR 0 r = r := by
  rcases r with e | ⟨v, n⟩ <;> simp [shiftR]
theorem shiftR_add {α : Type} (a b : Nat) (r : Except Nat (α × Nat)) : shiftR a (shiftR b r) = shiftR (a + b) r := by
  rcases r with e | ⟨v, n⟩ <;> simp [shiftR, Nat.add_assoc]
theorem classR_end {f : Nat} {l : List UInt8} {a : BitVec 256} (h : seesB l 93 = true) : classR (f + 1) l a = .ok (a, 1) := by
  unfold classR
  rw [if_pos h]
theorem classR_bad {f d : Nat} {l : List UInt8} {a : BitVec 256} (h : seesB l 93 = false) (he : elemR l = .error d) : classR (f + 1) l a = .error d := by
  unfold classR
  rw [if_neg (by rw [h]; decide), he]
theorem classR_go {f n : Nat} {l : List UInt8} {a : BitVec 256} {p : Nat × Nat} (h : seesB l 93 = false) (he : elemR l = .ok (p, n)) : classR (f + 1) l a = shiftR n (classR f (l.drop n) (a ||| ofP (rangeP p.1 p.2))) := by
  show (if seesB l 93 = true then Except.ok (a, 1) else match elemR l with
    | .error d => .error d
    | .ok (p, n) => match classR f (l.drop n) (a ||| ofP (rangeP p.1 p.2)) with
      | .error d => .error (n + d)
      | .ok (b, k) => .ok (b, n + k)) = _
  rw [if_neg (by rw [h]; decide), he]
  show (match classR f (l.drop n) (a ||| ofP (rangeP p.1 p.2)) with
      | .error d => Except.error (n + d)
      | .ok (b, k) => .ok (b, n + k)) = _
  generalize classR f (l.drop n) (a ||| ofP (rangeP p.1 p.2)) = r
  rcases r with e | ⟨v, k⟩ <;> rfl
def clsR (l : List UInt8) : Except Nat (BitVec 256 × Nat) := if seesB l 94 = true then match classR (l.length + 1) (l.drop 1) 0 with
    | .error d => .error (d + 1)
    | .ok (a, n) => .ok (~~~a, n + 1)
  else classR (l.length + 1) l 0
theorem set4_go (w' : World) (b : Nat) (u0 u1 u2 u3 : Value) : w'.grownBy ((((w'.setCell ⟨b, 0, none⟩ u0).setCell ⟨b, 1, none⟩ u1).setCell ⟨b, 2, none⟩ u2).setCell ⟨b, 3, none⟩ u3) (some b) :=
  (((go_set w' b 0 u0).trans (go_set _ b 1 u1)).trans (go_set _ b 2 u2)).trans (go_set _ b 3 u3)
theorem clsR_no {s : ByteArray} {i : Nat} (h : seesB (rest s i) 94 = false) : clsR (rest s i) = classR (s.size - i + 1) (rest s i) 0 := by
  unfold clsR
  rw [if_neg (by rw [h]; decide), rest_length]
theorem clsR_yes {s : ByteArray} {i : Nat} (h : seesB (rest s i) 94 = true) : clsR (rest s i) = match classR (s.size - i + 1) (rest s (i + 1)) 0 with
    | .error d => .error (d + 1)
    | .ok (a, n) => .ok (~~~a, n + 1) := by
  unfold clsR
  rw [if_pos h, rest_length, ← rest_drop]
def setV (a : BitVec 256) : Value := (.agg #[.int .u64 (wd (a) 0), .int .u64 (wd (a) 1), .int .u64 (wd (a) 2), .int .u64 (wd (a) 3)])
theorem un_keep {w4 w5 : World} {bp b4 bx : Nat} {a x : BitVec 256} {s : ByteArray} {i o : Nat} {m : Value} (hnb : b4 ≠ bp) (hne : bx ≠ bp) (hz : SetAt w4 b4 a) (hx : SetAt w4 bx x) (hp : PB w4 bp s i o m) (hb : Below w4.heap.size w4 w5) :
    SetAt w5 b4 a ∧ SetAt w5 bx x ∧ PB w5 bp s i o m ∧ w4.grownBy w5 (some bp) := by
  have hg : w4.grownBy w5 (some bp) := grown_of_below hb
  exact ⟨hz.keep hg hnb, hx.keep hg hne, hp.below hb, hg⟩
set_option maxHeartbeats 4000000 in
theorem class_any (s : ByteArray) (i o : Nat) (m : Value) (bp : Nat) (w : World) (h : PB w bp s i o m) (hi : i ≤ s.size) (hs : s.size ≤ 65536) :
    Calls Tryz.prog 120 #[.pointer (some ⟨bp, 0, none⟩)] w fun e w' => Res (clsR (rest s i)) setV s i o m bp w e w' := by
  have hbp := h.lt
  have hb0 : Below w.heap.size w (w.alloc (.cells #[.int .u64 0, .int .u64 0, .int .u64 0, .int .u64 0] 24)) := (Below.refl _ _).alloc (Nat.le_refl _) _
  have hg0 : w.grownBy (w.alloc (.cells #[.int .u64 0, .int .u64 0, .int .u64 0, .int .u64 0] 24)) (some bp) := grown_of_below hb0
  have h0 := h.alloc (.cells #[.int .u64 0, .int .u64 0, .int .u64 0, .int .u64 0] 24)
  have hne : w.heap.size ≠ bp := by omega
  have ht0 : SetAt (w.alloc (.cells #[.int .u64 0, .int .u64 0, .int .u64 0, .int .u64 0] 24)) w.heap.size 0 := SetAt.zero w
  obtain ⟨v, hv⟩ : ∃ v, seesB (rest s i) 94 = v := ⟨_, rfl⟩
  obtain ⟨r, hr0⟩ : ∃ r, clsR (rest s i) = r := ⟨_, rfl⟩
  rw [hr0]
  go_enter Tryz.func120, Tryz.ntmps120
  go_wp2_with (first | (go_at_call 97; refine (skip_any s 94 i o m bp _ h0 hi hs v hv).mono ?_; rintro e w1 ⟨rfl, h1⟩))
  obtain ⟨j0, hj0⟩ : ∃ j0, (bif v then i + 1 else i) = j0 := ⟨_, rfl⟩
  rw [hj0] at h1
  have hj0s : j0 ≤ s.size := by
    cases v
    · rw [← hj0]; exact hi
    · rw [← hj0]; exact seesB_lt hv
  have hx1 := SetAt.keep h1.1 hne ht0
  have hgw1 := hg0.trans h1.1
  have hl1 := h1.2.lt
  have hlx := hx1.lt
  have hb2 : Below w1.heap.size w1 (w1.alloc (.cells #[.int .u64 0, .int .u64 0, .int .u64 0, .int .u64 0] 24)) := (Below.refl _ _).alloc (Nat.le_refl _) _
  have h2 := h1.2.below hb2
  have hx2 := SetAt.keep (bp := bp) (grown_of_below hb2) hne hx1
  have hz2 : SetAt (w1.alloc (.cells #[.int .u64 0, .int .u64 0, .int .u64 0, .int .u64 0] 24)) w1.heap.size 0 := SetAt.zero w1
  have hg2 := hgw1.trans (grown_of_below (x := some bp) hb2)
  have hnb : w1.heap.size ≠ bp := by omega
  have hnx : w1.heap.size ≠ w.heap.size := by omega
  have hwb : w.heap.size ≤ w1.heap.size := by omega
  clear hb2 hgw1 hx1 h1 hg0 h0 ht0 hb0
  obtain ⟨w2, hw2⟩ : ∃ z, z = w1.alloc (.cells #[.int .u64 0, .int .u64 0, .int .u64 0, .int .u64 0] 24) := ⟨_, rfl⟩
  rw [← hw2] at h2 hx2 hz2 hg2 ⊢
  clear hw2 hl1 hlx
  obtain ⟨b4, hb4⟩ : ∃ z, z = w1.heap.size := ⟨_, rfl⟩
  rw [← hb4] at hz2 hnb hnx hwb ⊢
  clear hb4
  go_loopw [] (fun wr => ∃ (j f : Nat) (a : BitVec 256), j0 ≤ j ∧ j ≤ s.size ∧ s.size - j < f ∧ shiftR (j - j0) (classR f (rest s j) a) = classR (s.size - i + 1) (rest s j0) 0 ∧ PB wr bp s j o m ∧ SetAt wr b4 a ∧ SetAt wr w.heap.size 0 ∧ w.grownBy wr (some bp)) (fun wr => s.size - posOf bp wr)
  case atStart => exact ⟨j0, s.size - i + 1, 0, Nat.le_refl _, hj0s, by cases v <;> simp at hj0 <;> omega, by rw [Nat.sub_self, shiftR_zero], h2, hz2, hx2, hg2⟩
  case round =>
    clear h2 hz2 hx2 hg2
    obtain ⟨j, f, a, hj, hjs, hf, he, hp, hz, hx, hg⟩ := hrel
    obtain ⟨f, rfl⟩ : ∃ f', f = f' + 1 := ⟨f - 1, by omega⟩
    obtain ⟨c, hc⟩ : ∃ c, seesB (rest s j) 93 = c := ⟨_, rfl⟩
    cases c
    · rcases hel : elemR (rest s j) with d | ⟨⟨lo, hi2⟩, n⟩
      · rw [classR_bad hc hel] at he
        have hr : ∃ k, clsR (rest s i) = .error k ∧ i + k = j + d := by
          cases v
          · rw [clsR_no hv]
            simp only [cond_false] at hj0
            subst hj0
            rw [← he]
            exact ⟨_, rfl, by omega⟩
          · rw [clsR_yes hv]
            simp only [cond_true] at hj0
            subst hj0
            rw [← he]
            exact ⟨_, rfl, by omega⟩
        obtain ⟨k, hr, hk⟩ := hr
        obtain rfl : r = .error k := hr0.symm.trans hr
        go_wp2_with (first | (go_at_call 97; refine (skip_any s 93 j o m bp _ hp hjs hs false hc).mono ?_; simp only [cond_false]; rintro e w3 ⟨rfl, h3⟩; have hz3 := SetAt.keep h3.1 hnb hz; have hx3 := SetAt.keep h3.1 hne hx; obtain ⟨z0, z1, z2, z3⟩ := hz3.cells))
        go_region_dies
        all_goals (go_at_call 126; refine (element_any s j o m bp _ (show PB w3.drew bp s j o m from h3.2) hjs hs).mono ?_; rw [hel]; simp only [Res]; rintro e w4 ⟨rfl, h4⟩; exact ⟨rfl, by rw [hk], ((hg.trans h3.1).trans (go_drewN w3 1 _)).trans h4⟩)
      · rw [classR_go hc hel, shiftR_add, ← rest_drop] at he
        have hn := elemR_le hel
        rw [rest_length] at hn
        go_wp2_with (first | (go_at_call 97; refine (skip_any s 93 j o m bp _ hp hjs hs false hc).mono ?_; simp only [cond_false]; rintro e w3 ⟨rfl, h3⟩; have hz3 := SetAt.keep h3.1 hnb hz; have hx3 := SetAt.keep h3.1 hne hx; obtain ⟨z0, z1, z2, z3⟩ := hz3.cells))
        go_region_with (first | (go_at_call 126; refine (element_any s j o m bp _ (show PB w3.drew bp s j o m from h3.2) hjs hs).mono ?_; rw [hel]; simp only [Res, rangeV]; rintro e w4 ⟨rfl, h4⟩; have hz4 := SetAt.keep h4.1 hnb (show SetAt w3.drew b4 a from hz3); have hx4 := SetAt.keep h4.1 hne (show SetAt w3.drew w.heap.size 0 from hx3); obtain ⟨z0, z1, z2, z3⟩ := hz4.cells) | (go_at_call 108; refine (union_pair a (ofP (rangeP lo hi2)) w4 w4.heap.size rfl).mono ?_; rintro e w5 ⟨rfl, hb5⟩; have h55 := un_keep hnb hne hz4 hx4 h4.2 hb5; obtain ⟨hz5, hx5, h5, hg5⟩ := h55; obtain ⟨z0, z1, z2, z3⟩ := hz5.cells; obtain ⟨y0, y1, y2, y3⟩ := hz5.free))
        all_goals
          go_wp2_with fail
          have h6 := set4_go w5 b4 (.int .u64 (wd (a ||| ofP (rangeP lo hi2)) 0)) (.int .u64 (wd (a ||| ofP (rangeP lo hi2)) 1)) (.int .u64 (wd (a ||| ofP (rangeP lo hi2)) 2)) (.int .u64 (wd (a ||| ofP (rangeP lo hi2)) 3))
          have hp6 : PB _ bp s (j + n) o m := (h6.block bp h5.lt (by simp; omega)).trans h5
          refine ⟨⟨j + n, f, a ||| ofP (rangeP lo hi2), by omega, by omega, by omega, by rw [← he]; congr 1; omega, hp6, hz5.store _, (h6.block _ hx5.lt (by simp; omega)).trans hx5, ?_⟩, ?_⟩
          · have hg5 := (((hg.trans h3.1).trans (go_drewN w3 1 _)).trans h4.1).trans hg5
            exact ⟨h6.os.trans hg5.os, h6.tape.trans hg5.tape, h6.output.trans hg5.output, Nat.le_trans hg5.size h6.size, fun k hk hne => (h6.block k (Nat.lt_of_lt_of_le hk hg5.size) (by simp; omega)).trans (hg5.block k hk hne)⟩
          · have hpos : posOf bp _ = j + n := PB.pos hp6
            rw [hpos, hp.pos]
            omega
    · rw [classR_end hc] at he
      cases v
      · have hr : clsR (rest s i) = .ok (a, j - i + 1) := by
          rw [clsR_no hv]
          simp only [cond_false] at hj0
          subst hj0
          rw [← he]
          rfl
        obtain rfl := hr0.symm.trans hr
        simp only [cond_false] at hj0
        go_wp2_with (first | (go_at_call 97; refine (skip_any s 93 j o m bp _ hp hjs hs true hc).mono ?_; simp only [cond_true]; rintro e w3 ⟨rfl, h3⟩; have hz3 := SetAt.keep h3.1 hnb hz; have hx3 := SetAt.keep h3.1 hne hx; obtain ⟨z0, z1, z2, z3⟩ := hz3.cells; obtain ⟨x0, x1, x2, x3⟩ := hx3.cells; obtain ⟨y0, y1, y2, y3⟩ := hx3.free))
        exact bodyPost_ret (v := setV _) (by simp [results, Tryz.results120, go_sem, setV, *]) rfl ⟨rfl, PS.result4 (Nat.le_refl _) hbp (go_refl _ _) (hg.trans h3.1) (by have := h3.2; rwa [show j + 1 = i + (j - i + 1) from by omega] at this)⟩
      · have hr : clsR (rest s i) = .ok (~~~a, j - i + 1) := by
          rw [clsR_yes hv]
          simp only [cond_true] at hj0
          subst hj0
          rw [← he]
          show Except.ok (~~~a, j - (i + 1) + 1 + 1) = _
          rw [show j - (i + 1) + 1 + 1 = j - i + 1 from by omega]
        obtain rfl := hr0.symm.trans hr
        simp only [cond_true] at hj0
        go_wp2_with (first | (go_at_call 97; refine (skip_any s 93 j o m bp _ hp hjs hs true hc).mono ?_; simp only [cond_true]; rintro e w3 ⟨rfl, h3⟩; have hz3 := SetAt.keep h3.1 hnb hz; have hx3 := SetAt.keep h3.1 hne hx; obtain ⟨z0, z1, z2, z3⟩ := hz3.cells; obtain ⟨x0, x1, x2, x3⟩ := hx3.cells; obtain ⟨y0, y1, y2, y3⟩ := hx3.free) | (go_at_call 55; refine (not_any a _).mono ?_; rintro e w9 ⟨rfl, hb9⟩; have hx9 := SetAt.keep (bp := bp) (grown_of_below hb9) hne hx3; obtain ⟨x0, x1, x2, x3⟩ := hx9.cells; obtain ⟨y0, y1, y2, y3⟩ := hx9.free))
        exact bodyPost_ret (v := setV _) (by simp [results, Tryz.results120, go_sem, setV, *]) rfl ⟨rfl, PS.result4 (Nat.le_refl _) hbp (go_refl _ _) ((hg.trans h3.1).trans (grown_of_below hb9)) (by have := h3.2.below hb9; rwa [show j + 1 = i + (j - i + 1) from by omega] at this)⟩
end Go.Proofs.YtkpfpegjapddfaaGreatDoor
