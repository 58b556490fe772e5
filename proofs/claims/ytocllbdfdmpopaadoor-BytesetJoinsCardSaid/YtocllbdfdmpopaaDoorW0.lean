/- The contract of awake. -/
import Derived.Test.YtocllbdfdmpopaaDoorV
import Derived.Deep.RegionHeld3
set_option maxRecDepth 100000
namespace Go.Proofs.YtocllbdfdmpopaaDoor
open Go.RowKit

theorem of_ace (w : World) : Calls Tryd.prog 22 #[.string { data := #[97, 99, 101] }] w fun e w' => e = .returned (.agg #[.int .u64 (wd (ofB [97, 99, 101]) 0), .int .u64 (wd (ofB [97, 99, 101]) 1), .int .u64 (wd (ofB [97, 99, 101]) 2), .int .u64 (wd (ofB [97, 99, 101]) 3)]) ∧ Below w.heap.size w w' := of_any _ w (by decide)
theorem of_ax (w : World) : Calls Tryd.prog 22 #[.string { data := #[97, 120] }] w fun e w' => e = .returned (.agg #[.int .u64 (wd (sAx) 0), .int .u64 (wd (sAx) 1), .int .u64 (wd (sAx) 2), .int .u64 (wd (sAx) 3)]) ∧ Below w.heap.size w w' := of_any _ w (by decide)
theorem of_a (w : World) : Calls Tryd.prog 22 #[.string { data := #[97] }] w fun e w' => e = .returned (.agg #[.int .u64 (wd (sA) 0), .int .u64 (wd (sA) 1), .int .u64 (wd (sA) 2), .int .u64 (wd (sA) 3)]) ∧ Below w.heap.size w w' := of_any _ w (by decide)
theorem range_b (w : World) : Calls Tryd.prog 20 #[.int .u8 98, .int .u8 98] w fun e w' => e = .returned (.agg #[.int .u64 (wd (ofP (rangeP 98 98)) 0), .int .u64 (wd (ofP (rangeP 98 98)) 1), .int .u64 (wd (ofP (rangeP 98 98)) 2), .int .u64 (wd (ofP (rangeP 98 98)) 3)]) ∧ Below w.heap.size w w' := range_any 98 98 (by omega) (by omega) w
theorem union_aw (w : World) (n : Nat) (hn : w.heap.size = n) : Calls Tryd.prog 24 #[.slice (some ⟨n, 0, none⟩) 2 2] (w.alloc (.cells #[.int .u64 (wd (ofB [97, 99, 101]) 0), .int .u64 (wd (ofB [97, 99, 101]) 1), .int .u64 (wd (ofB [97, 99, 101]) 2), .int .u64 (wd (ofB [97, 99, 101]) 3), .int .u64 (wd (ofP (rangeP 98 98)) 0), .int .u64 (wd (ofP (rangeP 98 98)) 1), .int .u64 (wd (ofP (rangeP 98 98)) 2), .int .u64 (wd (ofP (rangeP 98 98)) 3)] 24)) fun e w' => e = .returned (.agg #[.int .u64 (wd (aw) 0), .int .u64 (wd (aw) 1), .int .u64 (wd (aw) 2), .int .u64 (wd (aw) 3)]) ∧ Below w.heap.size w w' := union_pair _ _ w n hn
theorem first_aw (w : World) (hT : Tab w) : Calls Tryd.prog 9 #[(.agg #[.int .u64 (wd (aw) 0), .int .u64 (wd (aw) 1), .int .u64 (wd (aw) 2), .int .u64 (wd (aw) 3)]), .int .i64 100] w fun e w' => e = .returned (.tuple #[.int .u8 101, .bool true]) ∧ Below w.heap.size w w' := by
  have := first_nat aw 100 100 (.inr rfl) (by omega) w hT
  rw [aw_f100, fstV_in (by omega)] at this
  exact this
theorem cut_aw (w : World) (hT : Tab w) (n : Nat) (hn : w.heap.size = n) : Calls Tryd.prog 29 #[.slice (some ⟨n, 0, none⟩) 1 1] (w.alloc (.cells #[.int .u64 (wd aw 0), .int .u64 (wd aw 1), .int .u64 (wd aw 2), .int .u64 (wd aw 3)] 24)) fun e w' => ∃ g cap, e = .returned (.slice (some ⟨g, 0, none⟩) 2 cap) ∧ w'.cell? ⟨g, 4, none⟩ = some (.int .u64 (wd aw 0)) ∧ w'.cell? ⟨g, 5, none⟩ = some (.int .u64 (wd aw 1)) ∧ w'.cell? ⟨g, 6, none⟩ = some (.int .u64 (wd aw 2)) ∧ w'.cell? ⟨g, 7, none⟩ = some (.int .u64 (wd aw 3)) ∧ g < w'.heap.size ∧ Below w.heap.size w w' := by
  subst hn
  refine (cut_any _ _ _ (hT.alloc _) (sl_one w aw)).mono ?_
  rintro e w' ⟨r, rfl, hr, hb⟩
  rw [aw_cut] at hr
  obtain ⟨g, cap, rfl, hg1, hg2⟩ := row_some hr
  have f := flatS_at [cls [aw] 0, aw] 1 (by simp)
  refine ⟨g, cap, rfl, ?_, ?_, ?_, ?_, hg2, ((Below.refl _ _).alloc (Nat.le_refl _) _).trans (hb.mono (by simp))⟩
  · rw [hr.cellAt 4 (by simp)]; exact f 0 (by omega)
  · rw [hr.cellAt 5 (by simp)]; exact f 1 (by omega)
  · rw [hr.cellAt 6 (by simp)]; exact f 2 (by omega)
  · rw [hr.cellAt 7 (by simp)]; exact f 3 (by omega)
theorem ranges_aw (w : World) (hT : Tab w) : Calls Tryd.prog 16 #[(.agg #[.int .u64 (wd (aw) 0), .int .u64 (wd (aw) 1), .int .u64 (wd (aw) 2), .int .u64 (wd (aw) 3)])] w fun e w' => ∃ v, e = .returned v ∧ Pr w' v [(97, 99), (101, 101)] ∧ Below w.heap.size w w' := by
  refine (ranges_any aw w hT).mono ?_
  rintro e w' ⟨v, rfl, hr, hb⟩
  rw [aw_runs] at hr
  exact ⟨v, rfl, pr_of_row (by simp) hr, hb⟩
theorem has_aw (w : World) : Calls Tryd.prog 11 #[(.agg #[.int .u64 (wd (aw) 0), .int .u64 (wd (aw) 1), .int .u64 (wd (aw) 2), .int .u64 (wd (aw) 3)]), .int .u8 97] w fun e w' => e = .returned (.bool true) ∧ Below w.heap.size w w' := by
  have := has_any aw 97 (by omega) w
  rw [aw_97] at this
  exact this
theorem count_aw (w : World) : Calls Tryd.prog 13 #[(.agg #[.int .u64 (wd (aw) 0), .int .u64 (wd (aw) 1), .int .u64 (wd (aw) 2), .int .u64 (wd (aw) 3)])] w fun e w' => e = .returned (.int .i64 4) ∧ Below w.heap.size w w' := by
  have := count_any aw w
  rw [aw_cnt] at this
  exact this
theorem count_nw (w : World) : Calls Tryd.prog 13 #[(.agg #[.int .u64 (wd (~~~aw) 0), .int .u64 (wd (~~~aw) 1), .int .u64 (wd (~~~aw) 2), .int .u64 (wd (~~~aw) 3)])] w fun e w' => e = .returned (.int .i64 252) ∧ Below w.heap.size w w' := by
  have := count_any (~~~aw) w
  rw [aw_cnt_not] at this
  exact this
theorem count_full (w : World) : Calls Tryd.prog 13 #[(.agg #[.int .u64 (wd (full) 0), .int .u64 (wd (full) 1), .int .u64 (wd (full) 2), .int .u64 (wd (full) 3)])] w fun e w' => e = .returned (.int .i64 256) ∧ Below w.heap.size w w' := by
  have := count_any full w
  rw [full_cnt] at this
  exact this
theorem inter_none (w : World) : Calls Tryd.prog 26 #[.slice none 0 0] w fun e w' => e = .returned (.agg #[.int .u64 (wd (full) 0), .int .u64 (wd (full) 1), .int .u64 (wd (full) 2), .int .u64 (wd (full) 3)]) ∧ Below w.heap.size w w' :=
  inter_any _ [] w ⟨by simp [maxLen], .inl ⟨rfl, none, 0, rfl⟩⟩
theorem inter_aw (w : World) (n : Nat) (hn : w.heap.size = n) : Calls Tryd.prog 26 #[.slice (some ⟨n, 0, none⟩) 2 2] (w.alloc (.cells #[.int .u64 (wd aw 0), .int .u64 (wd aw 1), .int .u64 (wd aw 2), .int .u64 (wd aw 3), .int .u64 (wd sAx 0), .int .u64 (wd sAx 1), .int .u64 (wd sAx 2), .int .u64 (wd sAx 3)] 24)) fun e w' => e = .returned (.agg #[.int .u64 (wd (sA) 0), .int .u64 (wd (sA) 1), .int .u64 (wd (sA) 2), .int .u64 (wd (sA) 3)]) ∧ Below (w.alloc (.cells #[.int .u64 (wd aw 0), .int .u64 (wd aw 1), .int .u64 (wd aw 2), .int .u64 (wd aw 3), .int .u64 (wd sAx 0), .int .u64 (wd sAx 1), .int .u64 (wd sAx 2), .int .u64 (wd sAx 3)] 24)).heap.size (w.alloc (.cells #[.int .u64 (wd aw 0), .int .u64 (wd aw 1), .int .u64 (wd aw 2), .int .u64 (wd aw 3), .int .u64 (wd sAx 0), .int .u64 (wd sAx 1), .int .u64 (wd sAx 2), .int .u64 (wd sAx 3)] 24)) w' := by
  subst hn
  have := inter_any _ _ _ (sl_two w aw sAx)
  rw [inter_two, aw_and] at this
  exact this
theorem pr_lit (w : World) : Pr (w.alloc (.cells #[.int .u8 97, .int .u8 99, .int .u8 101, .int .u8 101] 44)) (.slice (some ⟨w.heap.size, 0, none⟩) 2 2) [(97, 99), (101, 101)] := by
  refine ⟨by simp, .inr ⟨_, 2, rfl, by simp, fun i hi => ?_⟩⟩
  match i, hi with
  | 0, _ => simp
  | 1, _ => simp
/-- What the region leans on. -/
theorem s_keep {w5 W W' : World} {b g : Nat} {x0 x1 x2 x3 y0 y1 y2 y3 : Value} (hbl : b < w5.heap.size) (hg : g < w5.heap.size)
    (h : W.cell? ⟨b, 0, none⟩ = some x0 ∧ W.cell? ⟨b, 1, none⟩ = some x1 ∧ W.cell? ⟨b, 2, none⟩ = some x2 ∧ W.cell? ⟨b, 3, none⟩ = some x3 ∧ W.cell? ⟨g, 4, none⟩ = some y0 ∧ W.cell? ⟨g, 5, none⟩ = some y1 ∧ W.cell? ⟨g, 6, none⟩ = some y2 ∧ W.cell? ⟨g, 7, none⟩ = some y3 ∧ Below w5.heap.size w5 W)
    (hb : Below W.heap.size W W') :
    W'.cell? ⟨b, 0, none⟩ = some x0 ∧ W'.cell? ⟨b, 1, none⟩ = some x1 ∧ W'.cell? ⟨b, 2, none⟩ = some x2 ∧ W'.cell? ⟨b, 3, none⟩ = some x3 ∧ W'.cell? ⟨g, 4, none⟩ = some y0 ∧ W'.cell? ⟨g, 5, none⟩ = some y1 ∧ W'.cell? ⟨g, 6, none⟩ = some y2 ∧ W'.cell? ⟨g, 7, none⟩ = some y3 ∧ Below w5.heap.size w5 W' := by
  obtain ⟨h0, h1, h2, h3, h4, h5, h6, h7, h8⟩ := h
  have lb : b < W.heap.size := Nat.lt_of_lt_of_le hbl h8.size
  have lg : g < W.heap.size := Nat.lt_of_lt_of_le hg h8.size
  have cb (o : Nat) := hb.cell (p := ⟨b, o, none⟩) lb
  have cg (o : Nat) := hb.cell (p := ⟨g, o, none⟩) lg
  exact ⟨(cb _).trans h0, (cb _).trans h1, (cb _).trans h2, (cb _).trans h3, (cg _).trans h4, (cg _).trans h5, (cg _).trans h6, (cg _).trans h7, h8.trans (hb.mono h8.size)⟩
theorem s_below {w5 W : World} {b g : Nat} {x0 x1 x2 x3 y0 y1 y2 y3 : Value}
    (h : W.cell? ⟨b, 0, none⟩ = some x0 ∧ W.cell? ⟨b, 1, none⟩ = some x1 ∧ W.cell? ⟨b, 2, none⟩ = some x2 ∧ W.cell? ⟨b, 3, none⟩ = some x3 ∧ W.cell? ⟨g, 4, none⟩ = some y0 ∧ W.cell? ⟨g, 5, none⟩ = some y1 ∧ W.cell? ⟨g, 6, none⟩ = some y2 ∧ W.cell? ⟨g, 7, none⟩ = some y3 ∧ Below w5.heap.size w5 W) : Below w5.heap.size w5 W := h.2.2.2.2.2.2.2.2
set_option maxHeartbeats 4000000 in
theorem awake_any (w : World) (hT : Tab w) : Calls Tryd.prog 8 #[] w fun e w' => e = .returned (.bool true) ∧ Below w.heap.size w w' := by
  go_enter Tryd.func8, Tryd.ntmps8
  go_wp2_with (first
    | (go_at_call 22; refine (of_ace _).mono ?_; rintro e w1 ⟨rfl, hb1⟩)
    | (go_at_call 20; refine (range_b _).mono ?_; rintro e w2 ⟨rfl, hb2⟩)
    | (go_at_call 24; refine (union_aw _ _ rfl).mono ?_; rintro e w3 ⟨rfl, hb3⟩; have hb03 := (hb1.trans (hb2.mono hb1.size)); have hb03 := hb03.trans (hb3.mono hb03.size); have hT3 := hT.below hb03; have hs3 := SetAt.new w3 aw)
    | (go_at_call 9; refine (first_aw _ (hT3.alloc _)).mono ?_; rintro e w4 ⟨rfl, hb4⟩; have hs4 := hs3.grown hb4; have hT4 := (hT3.alloc _).below hb4; obtain ⟨c0, c1, c2, c3⟩ := hs4.cells)
    | (go_at_call 29; refine (cut_aw _ hT4 _ rfl).mono ?_; rintro e w5 ⟨g, cap, rfl, d0, d1, d2, d3, hg, hb5⟩; have hs5 := hs4.grown hb5; have hT5 := hT4.below hb5; clear c0 c1 c2 c3 hs4 hT4 hs3 hT3))
  have hb05 : Below w.heap.size w w5 := by
    have h4 := (hb03.alloc hb03.size _).trans (hb4.mono (hb03.alloc hb03.size _).size)
    exact h4.trans (hb5.mono h4.size)
  clear hb1 hb2 hb3 hb03 hb4 hb5
  have hbl := hs5.lt
  obtain ⟨c0, c1, c2, c3⟩ := hs5.cells
  clear hs5
  generalize w3.heap.size = b at *
  have hlA : Pr (w5.alloc (.cells #[.int .u8 97, .int .u8 99, .int .u8 101, .int .u8 101] 44)).drew (.slice (some ⟨w5.heap.size, 0, none⟩) 2 2) [(97, 99), (101, 101)] := pr_lit w5
  have hlB : Pr (w5.drew.alloc (.cells #[.int .u8 97, .int .u8 99, .int .u8 101, .int .u8 101] 44)) (.slice (some ⟨w5.heap.size, 0, none⟩) 2 2) [(97, 99), (101, 101)] := pr_lit w5
  have q1 := eq_set_same sA
  have q2 := eq_set_same aw
  go_region_held3 (fun W => W.cell? ⟨b, 0, none⟩ = some (.int .u64 (wd aw 0)) ∧ W.cell? ⟨b, 1, none⟩ = some (.int .u64 (wd aw 1)) ∧ W.cell? ⟨b, 2, none⟩ = some (.int .u64 (wd aw 2)) ∧ W.cell? ⟨b, 3, none⟩ = some (.int .u64 (wd aw 3)) ∧ W.cell? ⟨g, 4, none⟩ = some (.int .u64 (wd aw 0)) ∧ W.cell? ⟨g, 5, none⟩ = some (.int .u64 (wd aw 1)) ∧ W.cell? ⟨g, 6, none⟩ = some (.int .u64 (wd aw 2)) ∧ W.cell? ⟨g, 7, none⟩ = some (.int .u64 (wd aw 3)) ∧ Below w5.heap.size w5 W)
    (first | exact s_keep hbl hg (by assumption) (by assumption) | exact s_keep hbl hg (by assumption) ((Below.refl _ _).alloc (Nat.le_refl _) _) | exact ⟨c0, c1, c2, c3, d0, d1, d2, d3, (Below.refl _ _).drew⟩)
    (first
      | (go_at_call 16; refine (ranges_aw _ (hT5.lower (s_below (by assumption)) hT5.1)).mono ?_; rintro e w6 ⟨v, rfl, hPr, hb6⟩)
      | (go_at_call 15; first | ((with_reducible refine (rows_same _ _ _ _ (hPr.below ((Below.refl _ _).alloc (Nat.le_refl _) _)) (pr_lit _)).mono ?_); rintro e w7 ⟨rfl, hb7⟩) | ((with_reducible refine (rows_same _ _ _ _ hPr (hlA.below hb6)).mono ?_); rintro e w7 ⟨rfl, hb7⟩) | ((with_reducible refine (rows_same _ _ _ _ hPr (hlB.below hb6)).mono ?_); rintro e w7 ⟨rfl, hb7⟩))
      | (go_at_call 11; refine (has_aw _).mono ?_; rintro e w8 ⟨rfl, hb8⟩)
      | (go_at_call 13; first | ((with_reducible refine (count_aw _).mono ?_); rintro e w9 ⟨rfl, hb9⟩) | ((with_reducible refine (count_nw _).mono ?_); rintro e w9 ⟨rfl, hb9⟩) | ((with_reducible refine (count_full _).mono ?_); rintro e w9 ⟨rfl, hb9⟩))
      | (go_at_call 18; refine (not_any aw _).mono ?_; rintro e w10 ⟨rfl, hb10⟩)
      | (go_at_call 26; first | ((with_reducible refine (inter_none _).mono ?_); rintro e w11 ⟨rfl, hb11⟩) | ((with_reducible refine (inter_aw _ _ rfl).mono ?_); rintro e w11 ⟨rfl, hb11⟩))
      | (go_at_call 22; first | ((with_reducible refine (of_ax _).mono ?_); rintro e w12 ⟨rfl, hb12⟩) | ((with_reducible refine (of_a _).mono ?_); rintro e w12 ⟨rfl, hb12⟩)))
  all_goals
    have hfin := hb05.trans (Below.mono (s_below (by assumption)) hb05.size)
    go_wp2
    go_ret
    exact ⟨rfl, hfin⟩
end Go.Proofs.YtocllbdfdmpopaaDoor
