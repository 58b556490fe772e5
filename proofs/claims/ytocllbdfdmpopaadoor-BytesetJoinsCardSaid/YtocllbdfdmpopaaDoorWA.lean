/- The contract of blockOf. -/
import Derived.Test.YtocllbdfdmpopaaDoorW5
set_option maxRecDepth 20000
namespace Go.Proofs.YtocllbdfdmpopaaDoor
open Go.RowKit

/-- The bytes that are in the same sets of l as b. -/
def cls (l : List (BitVec 256)) (b : Nat) : BitVec 256 := ofP (fun x => l.all (fun s => s.getLsbD x == s.getLsbD b))
theorem get_cls (l : List (BitVec 256)) (b x : Nat) (hx : x < 256) : (cls l b).getLsbD x = l.all (fun s => s.getLsbD x == s.getLsbD b) := get_ofP _ _ hx
theorem get_full (x : Nat) (hx : x < 256) : full.getLsbD x = true := by
  unfold full
  rw [BitVec.getLsbD_not]
  simp [hx]
theorem cls_nil (b : Nat) : cls [] b = full := by
  apply bv_ext
  intro x hx
  rw [get_cls _ _ _ hx, get_full x hx]
  rfl
theorem cls_in (l : List (BitVec 256)) (s : BitVec 256) (b : Nat) (h : s.getLsbD b = true) : cls (l ++ [s]) b = cls l b &&& s := by
  apply bv_ext
  intro x hx
  rw [get_cls _ _ _ hx, BitVec.getLsbD_and, get_cls _ _ _ hx, List.all_append]
  simp [h]
theorem cls_out (l : List (BitVec 256)) (s : BitVec 256) (b : Nat) (h : s.getLsbD b = false) : cls (l ++ [s]) b = cls l b &&& ~~~s := by
  apply bv_ext
  intro x hx
  rw [get_cls _ _ _ hx, BitVec.getLsbD_and, get_cls _ _ _ hx, List.all_append, BitVec.getLsbD_not]
  simp [h, hx]
theorem full_and (x : BitVec 256) : full &&& x = x := by
  apply bv_ext
  intro b hb
  rw [BitVec.getLsbD_and, get_full b hb, Bool.true_and]
theorem inter_two (x y : BitVec 256) : interL [x, y] = x &&& y := by simp [interL, full_and]
theorem union_two (x y : BitVec 256) : unionL [x, y] = x ||| y := by simp [unionL]
theorem sl_two (w : World) (x y : BitVec 256) : Sl (w.alloc (.cells #[.int .u64 (wd x 0), .int .u64 (wd x 1), .int .u64 (wd x 2), .int .u64 (wd x 3), .int .u64 (wd y 0), .int .u64 (wd y 1), .int .u64 (wd y 2), .int .u64 (wd y 3)] 24)) (.slice (some ⟨w.heap.size, 0, none⟩) 2 2) [x, y] := by
  refine ⟨by simp [maxLen], .inr ⟨_, 0, 2, rfl, by simp, ?_⟩⟩
  intro i hi j hj
  match i, hi with
  | 0, _ => match j, hj with
    | 0, _ => simp
    | 1, _ => simp
    | 2, _ => simp
    | 3, _ => simp
  | 1, _ => match j, hj with
    | 0, _ => simp
    | 1, _ => simp
    | 2, _ => simp
    | 3, _ => simp
theorem sl_one (w : World) (x : BitVec 256) : Sl (w.alloc (.cells #[.int .u64 (wd x 0), .int .u64 (wd x 1), .int .u64 (wd x 2), .int .u64 (wd x 3)] 24)) (.slice (some ⟨w.heap.size, 0, none⟩) 1 1) [x] := by
  refine ⟨by simp [maxLen], .inr ⟨_, 0, 1, rfl, by simp, ?_⟩⟩
  intro i hi j hj
  match i, hi with
  | 0, _ => match j, hj with
    | 0, _ => simp
    | 1, _ => simp
    | 2, _ => simp
    | 3, _ => simp
theorem inter_pair (x y : BitVec 256) (w : World) (n : Nat) (hn : w.heap.size = n) :
    Calls Tryd.prog 26 #[.slice (some ⟨n, 0, none⟩) 2 2] (w.alloc (.cells #[.int .u64 (wd x 0), .int .u64 (wd x 1), .int .u64 (wd x 2), .int .u64 (wd x 3), .int .u64 (wd y 0), .int .u64 (wd y 1), .int .u64 (wd y 2), .int .u64 (wd y 3)] 24)) fun e w' => e = .returned (.agg #[.int .u64 (wd (x &&& y) 0), .int .u64 (wd (x &&& y) 1), .int .u64 (wd (x &&& y) 2), .int .u64 (wd (x &&& y) 3)]) ∧ Below w.heap.size w w' := by
  subst hn
  refine (inter_any _ _ _ (sl_two w x y)).mono ?_
  rintro e w' ⟨rfl, hb⟩
  rw [inter_two]
  exact ⟨rfl, ((Below.refl _ _).alloc (Nat.le_refl _) _).trans (hb.mono (by simp))⟩
theorem union_pair (x y : BitVec 256) (w : World) (n : Nat) (hn : w.heap.size = n) :
    Calls Tryd.prog 24 #[.slice (some ⟨n, 0, none⟩) 2 2] (w.alloc (.cells #[.int .u64 (wd x 0), .int .u64 (wd x 1), .int .u64 (wd x 2), .int .u64 (wd x 3), .int .u64 (wd y 0), .int .u64 (wd y 1), .int .u64 (wd y 2), .int .u64 (wd y 3)] 24)) fun e w' => e = .returned (.agg #[.int .u64 (wd (x ||| y) 0), .int .u64 (wd (x ||| y) 1), .int .u64 (wd (x ||| y) 2), .int .u64 (wd (x ||| y) 3)]) ∧ Below w.heap.size w w' := by
  subst hn
  refine (union_any _ _ _ (sl_two w x y)).mono ?_
  rintro e w' ⟨rfl, hb⟩
  rw [union_two]
  exact ⟨rfl, ((Below.refl _ _).alloc (Nat.le_refl _) _).trans (hb.mono (by simp))⟩
set_option maxHeartbeats 1000000 in
theorem blockOf_any (v : Value) (l : List (BitVec 256)) (b : Nat) (hb : b < 256) (w : World) (hv : Sl w v l) :
    Calls Tryd.prog 37 #[v, .int .u8 b] w fun e w' => e = .returned (.agg #[.int .u64 (wd (cls l b) 0), .int .u64 (wd (cls l b) 1), .int .u64 (wd (cls l b) 2), .int .u64 (wd (cls l b) 3)]) ∧ Below w.heap.size w w' := by
  obtain ⟨hlen, hv⟩ := hv
  unfold maxLen at hlen
  rcases hv with ⟨rfl, a, cap, rfl⟩ | ⟨bb, off, cap, rfl, hl⟩
  · rw [cls_nil]
    go_enter Tryd.func37, Tryd.ntmps37
    go_wp2_with (go_at_call 18; refine (not_zero _).mono ?_; rintro e w1 ⟨rfl, hb1⟩)
    obtain ⟨hz, hbw⟩ := zero_then hb1
    have hlt := hz.lt
    obtain ⟨d0, d1, d2, d3⟩ := hz.cells
    obtain ⟨g0, g1, g2, g3⟩ := hz.free
    refine wp_loop_rounds 1 ?_
    rw [rounds_succ]; go_wp2
    refine bodyPost_ret (v := (.agg #[.int .u64 (wd (full) 0), .int .u64 (wd (full) 1), .int .u64 (wd (full) 2), .int .u64 (wd (full) 3)])) (by simp [results, Tryd.results37, go_sem, *]) rfl ⟨rfl, ?_⟩
    exact (below_set4 hbw (by omega) _ _ _ _).alloc (by simp [World.setCell]; omega) _
  · go_enter Tryd.func37, Tryd.ntmps37
    go_wp2_with (go_at_call 18; refine (not_zero _).mono ?_; rintro e w1 ⟨rfl, hb1⟩)
    obtain ⟨hz1, hbw1⟩ := zero_then hb1
    have hsz := hz1.lt
    go_loopw [12] (fun i wr => ∃ k : Nat, k ≤ l.length ∧ i = .int .i64 k ∧ SetAt wr w.heap.size 0 ∧ SetAt wr w1.heap.size (cls (l.take k) b) ∧ Below w.heap.size w wr) (fun i _ => l.length - (intOf i).toNat)
    case atStart => exact ⟨0, by omega, rfl, hz1.alloc _, by rw [List.take_zero, cls_nil]; exact SetAt.new _ _, hbw1.alloc (by omega) _⟩
    case round =>
      obtain ⟨k, hk, rfl, hz, hs, hbw⟩ := hrel
      clear hz1 hbw1 hb1
      by_cases hlt : k < l.length
      · obtain ⟨e0, e1, e2, e3⟩ := (hl.lower hbw hl.1).cells k hlt
        have hsl := hs.lt
        have HT : Hid (l.take (k + 1) = l.take k ++ [l[k]]) := List.take_succ_eq_append_getElem hlt
        obtain ⟨u, hu⟩ : ∃ u, cls (l.take k) b = u := ⟨_, rfl⟩
        obtain ⟨x, hx⟩ : ∃ x, l[k] = x := ⟨_, rfl⟩
        rw [hu] at hs
        rw [hx] at e0 e1 e2 e3
        have HU := Lib.hid hu
        have HX := Lib.hid hx
        clear hu hx
        cases hbit : x.getLsbD b
        · have HN : Hid (cls (l.take (k + 1)) b = u &&& ~~~x) := by rw [Hid, HT.out, HX.out, cls_out _ _ _ hbit, HU.out]
          have HB := Lib.hid hbit
          clear hbit
          go_wp2_with (first
            | (go_at_call 11; refine (has_any x b hb _).mono ?_; rw [HB.out]; rintro e w2 ⟨rfl, hb2⟩; have hx2 := (SetAt.new wr x).grown hb2; obtain ⟨c0, c1, c2, c3⟩ := hx2.cells)
            | (go_at_call 18; refine (not_any x _).mono ?_; rintro e w3 ⟨rfl, hb3⟩; obtain ⟨c0, c1, c2, c3⟩ := (hx2.grown hb3).cells; obtain ⟨f0, f1, f2, f3⟩ := (hx2.grown hb3).free; have hs3 := ((hs.alloc _).grown hb2).grown hb3; obtain ⟨s0, s1, s2, s3⟩ := hs3.cells))
          have hx4 := (hx2.grown hb3).store (~~~x)
          have hs4 := hs3.other4 (b := wr.heap.size) (by omega) (.int .u64 (wd (~~~x) 0)) (.int .u64 (wd (~~~x) 1)) (.int .u64 (wd (~~~x) 2)) (.int .u64 (wd (~~~x) 3))
          have hz4 := (((hz.alloc _).grown hb2).grown hb3).other4 (b := wr.heap.size) (by have := hz.lt; omega) (.int .u64 (wd (~~~x) 0)) (.int .u64 (wd (~~~x) 1)) (.int .u64 (wd (~~~x) 2)) (.int .u64 (wd (~~~x) 3))
          have hb4 := below_set4 (b := wr.heap.size) (((hbw.alloc hbw.size _).trans (hb2.mono (by have := hbw.size; simp; omega))).trans (hb3.mono (by have := hb2.size; have := hbw.size; simp at *; omega))) hbw.size (.int .u64 (wd (~~~x) 0)) (.int .u64 (wd (~~~x) 1)) (.int .u64 (wd (~~~x) 2)) (.int .u64 (wd (~~~x) 3))
          clear c0 c1 c2 c3 f0 f1 f2 f3 s0 s1 s2 s3 hs3 hx2 hb2 hz hs hbw e0 e1 e2 e3
          refine (inter_pair u (~~~x) _ _ (by simp [World.setCell])).mono ?_
          generalize (((w3.setCell ⟨wr.heap.size, 0, none⟩ (.int .u64 (wd (~~~x) 0))).setCell ⟨wr.heap.size, 1, none⟩ (.int .u64 (wd (~~~x) 1))).setCell ⟨wr.heap.size, 2, none⟩ (.int .u64 (wd (~~~x) 2))).setCell ⟨wr.heap.size, 3, none⟩ (.int .u64 (wd (~~~x) 3)) = w4 at *
          rintro e w5 ⟨rfl, hb5⟩
          have hs5 := hs4.grown hb5
          have hz5 := hz4.grown hb5
          have hb5' := hb4.trans (hb5.mono hb4.size)
          clear hs4 hz4 hb4 hb5 hx4 hb3
          obtain ⟨c0, c1, c2, c3⟩ := hs5.cells
          obtain ⟨f0, f1, f2, f3⟩ := hs5.free
          go_wp2
          go_roundw
          case rel => exact ⟨k + 1, by omega, num_succ k, hz5.other4 (by omega) _ _ _ _, by rw [HN.out]; exact hs5.store _, below_set4 hb5' (by omega) _ _ _ _⟩
          case measure => simp [intOf]; omega
        · have HN : Hid (cls (l.take (k + 1)) b = u &&& x) := by rw [Hid, HT.out, HX.out, cls_in _ _ _ hbit, HU.out]
          have HB := Lib.hid hbit
          clear hbit
          go_wp2_with (go_at_call 11; refine (has_any x b hb _).mono ?_; rw [HB.out]; rintro e w2 ⟨rfl, hb2⟩; have hx2 := (SetAt.new wr x).grown hb2; obtain ⟨c0, c1, c2, c3⟩ := hx2.cells; have hs2 := (hs.alloc _).grown hb2; obtain ⟨s0, s1, s2, s3⟩ := hs2.cells)
          have hz2 := (hz.alloc _).grown hb2
          have hbw2 := ((hbw.alloc hbw.size _).trans (hb2.mono (by have := hbw.size; simp; omega)))
          clear c0 c1 c2 c3 s0 s1 s2 s3 hx2 hb2 hz hs hbw e0 e1 e2 e3
          refine (inter_pair u x _ _ rfl).mono ?_
          rintro e w5 ⟨rfl, hb5⟩
          have hs5 := hs2.grown hb5
          have hz5 := hz2.grown hb5
          have hb5' := hbw2.trans (hb5.mono hbw2.size)
          clear hs2 hz2 hbw2 hb5
          obtain ⟨c0, c1, c2, c3⟩ := hs5.cells
          obtain ⟨f0, f1, f2, f3⟩ := hs5.free
          go_wp2
          go_roundw
          case rel => exact ⟨k + 1, by omega, num_succ k, hz5.other4 (by omega) _ _ _ _, by rw [HN.out]; exact hs5.store _, below_set4 hb5' (by omega) _ _ _ _⟩
          case measure => simp [intOf]; omega
      · obtain rfl : k = l.length := by omega
        rw [List.take_length] at hs
        obtain ⟨c0, c1, c2, c3⟩ := hs.cells
        obtain ⟨d0, d1, d2, d3⟩ := hz.cells
        obtain ⟨g0, g1, g2, g3⟩ := hz.free
        go_wp2
        refine bodyPost_ret (v := (.agg #[.int .u64 (wd (cls l b) 0), .int .u64 (wd (cls l b) 1), .int .u64 (wd (cls l b) 2), .int .u64 (wd (cls l b) 3)])) (by simp [results, Tryd.results37, go_sem, *]) rfl ⟨rfl, ?_⟩
        exact below_set4 hbw (by omega) _ _ _ _
end Go.Proofs.YtocllbdfdmpopaaDoor
