/- The walk of BytesetTells. -/
import Derived.Test.YtocllbdfdmpopaaDoorW0
set_option maxRecDepth 100000
namespace Go.Proofs.YtocllbdfdmpopaaDoor
open Go.RowKit
theorem t_keep {w5 W W' : World} {b : Nat} {x0 x1 x2 x3 : Value} (hbl : b < w5.heap.size)
    (h : W.cell? ⟨b, 0, none⟩ = some x0 ∧ W.cell? ⟨b, 1, none⟩ = some x1 ∧ W.cell? ⟨b, 2, none⟩ = some x2 ∧ W.cell? ⟨b, 3, none⟩ = some x3 ∧ Below w5.heap.size w5 W)
    (hb : Below W.heap.size W W') :
    W'.cell? ⟨b, 0, none⟩ = some x0 ∧ W'.cell? ⟨b, 1, none⟩ = some x1 ∧ W'.cell? ⟨b, 2, none⟩ = some x2 ∧ W'.cell? ⟨b, 3, none⟩ = some x3 ∧ Below w5.heap.size w5 W' := by
  obtain ⟨h0, h1, h2, h3, h8⟩ := h
  have lb : b < W.heap.size := Nat.lt_of_lt_of_le hbl h8.size
  have cb (o : Nat) := hb.cell (p := ⟨b, o, none⟩) lb
  exact ⟨(cb _).trans h0, (cb _).trans h1, (cb _).trans h2, (cb _).trans h3, h8.trans (hb.mono h8.size)⟩
theorem t_below {w5 W : World} {b : Nat} {x0 x1 x2 x3 : Value}
    (h : W.cell? ⟨b, 0, none⟩ = some x0 ∧ W.cell? ⟨b, 1, none⟩ = some x1 ∧ W.cell? ⟨b, 2, none⟩ = some x2 ∧ W.cell? ⟨b, 3, none⟩ = some x3 ∧ Below w5.heap.size w5 W) : Below w5.heap.size w5 W := h.2.2.2.2
theorem ranges_pr (s : BitVec 256) (w : World) (hT : Tab w) : Calls Tryd.prog 16 #[(.agg #[.int .u64 (wd (s) 0), .int .u64 (wd (s) 1), .int .u64 (wd (s) 2), .int .u64 (wd (s) 3)])] w fun e w' => ∃ v, e = .returned v ∧ Pr w' v (runs s 0) ∧ Below w.heap.size w w' := by
  refine (ranges_any s w hT).mono ?_
  rintro e w' ⟨v, rfl, hr, hb⟩
  have := runs_length s 256 0 (by omega)
  exact ⟨v, rfl, pr_of_row (by omega) hr, hb⟩
theorem rranges_pr (s : BitVec 256) (w : World) : Calls Tryd.prog 17 #[(.agg #[.int .u64 (wd (s) 0), .int .u64 (wd (s) 1), .int .u64 (wd (s) 2), .int .u64 (wd (s) 3)])] w fun e w' => ∃ v, e = .returned v ∧ Pr w' v (runs s 0) ∧ Below w.heap.size w w' := by
  refine (rranges_any s w).mono ?_
  rintro e w' ⟨v, rfl, hr, hb⟩
  rw [rTo_all] at hr
  have := runs_length s 256 0 (by omega)
  exact ⟨v, rfl, pr_of_row (by omega) hr, hb⟩
/-- What First hands back, in two parts. -/
theorem fstV_form (r : Nat) : ∃ (x : Nat) (y : Bool), fstV r = .tuple #[.int .u8 x, .bool y] := by
  rcases Nat.lt_or_ge r 256 with h | h
  · exact ⟨_, _, fstV_in h⟩
  · exact ⟨0, _, fstV_out h⟩
set_option maxHeartbeats 4000000 in
theorem tells_any (s : BitVec 256) (b : Nat) (hb : b < 256) (f : Int) (n : Nat) (hf : (f < 0 ∧ n = 0) ∨ f = n) (hn : n ≤ 9223372036854775807) (w : World) (hT : Tab w) :
    Calls Tryd.prog 3 #[(.agg #[.int .u64 (wd (s) 0), .int .u64 (wd (s) 1), .int .u64 (wd (s) 2), .int .u64 (wd (s) 3)]), .int .u8 b, .int .i64 f] w fun e w' => e = .returned (.bool true) ∧ Below w.heap.size w w' := by
  obtain ⟨x, y, hxy⟩ := fstV_form (fst s n)
  have HXY := Lib.hid hxy
  have HF := Lib.hid hf
  clear hxy hf
  go_enter Tryd.func3, Tryd.ntmps3
  go_wp2_with (first
    | (go_at_call 8; refine (awake_any _ (hT.alloc _)).mono ?_; rintro e w1 ⟨rfl, hb1⟩; have hs1 := (box_start w s).1.grown hb1; have hB1 := (box_start w s).2.trans (hb1.mono (by simp)); obtain ⟨c0, c1, c2, c3⟩ := hs1.cells)
    | (go_at_call 9; refine (first_nat s n f HF.out hn _ (hT.below hB1)).mono ?_; rw [HXY.out]; rintro e w2 ⟨rfl, hb2⟩; have hs2 := hs1.grown hb2; obtain ⟨c0, c1, c2, c3⟩ := hs2.cells)
    | (go_at_call 10; refine (rfirst_nat s n f HF.out hn _).mono ?_; rw [HXY.out]; rintro e w3 ⟨rfl, hb3⟩; have hs3 := hs2.grown hb3))
  have hB2 := hB1.trans (hb2.mono hB1.size)
  have hB3 := hB2.trans (hb3.mono hB2.size)
  have hT3 := hT.below hB3
  have hbl := hs3.lt
  clear hb1 hb2 hb3 hs1 hs2 hB1 hB2
  obtain ⟨c0, c1, c2, c3⟩ := hs3.cells
  clear hs3
  have q1 : ((x : Int) == (x : Int)) = true := by simp
  have q2 : ((cnt s 256 : Int) == (cnt s 256 : Int)) = true := by simp
  have q3 : (y == y) = true := by simp
  have q4 : (s.getLsbD b == s.getLsbD b) = true := by simp
  have q5 := eq_set_same (~~~s)
  go_region_held3 (fun W => W.cell? ⟨w.heap.size, 0, none⟩ = some (.int .u64 (wd s 0)) ∧ W.cell? ⟨w.heap.size, 1, none⟩ = some (.int .u64 (wd s 1)) ∧ W.cell? ⟨w.heap.size, 2, none⟩ = some (.int .u64 (wd s 2)) ∧ W.cell? ⟨w.heap.size, 3, none⟩ = some (.int .u64 (wd s 3)) ∧ Below w3.heap.size w3 W)
    (first | exact t_keep hbl (by assumption) (by assumption) | exact t_keep hbl (by assumption) ((Below.refl _ _).alloc (Nat.le_refl _) _) | exact ⟨c0, c1, c2, c3, (Below.refl _ _).drew⟩)
    (first
      | (go_at_call 11; refine (has_any s b hb _).mono ?_; rintro e w4 ⟨rfl, hb4⟩)
      | (go_at_call 12; refine (rhas_any s b hb _).mono ?_; rintro e w4 ⟨rfl, hb4⟩)
      | (go_at_call 13; refine (count_any s _).mono ?_; rintro e w4 ⟨rfl, hb4⟩)
      | (go_at_call 14; refine (rcount_any s _).mono ?_; rintro e w4 ⟨rfl, hb4⟩)
      | (go_at_call 16; refine (ranges_pr s _ (hT3.lower (t_below (by assumption)) hT3.1)).mono ?_; rintro e w6 ⟨v, rfl, hPr, hb6⟩)
      | (go_at_call 17; refine (rranges_pr s _).mono ?_; rintro e w7 ⟨v', rfl, hPr', hb7⟩)
      | (go_at_call 15; refine (rows_same _ _ _ _ (hPr.below hb7) hPr').mono ?_; rintro e w8 ⟨rfl, hb8⟩)
      | (go_at_call 18; refine (not_any s _).mono ?_; rintro e w9 ⟨rfl, hb9⟩)
      | (go_at_call 19; refine (rnot_any s _).mono ?_; rintro e w9 ⟨rfl, hb9⟩))
  all_goals
    have hfin := hB3.trans (Below.mono (t_below (by assumption)) hB3.size)
    go_wp2
    go_ret
    exact ⟨rfl, hfin⟩
end Go.Proofs.YtocllbdfdmpopaaDoor
