/- Texts that a proof rests on: PatternShows answers true. -/
import Derived.Test.YtkpfpegjapddfaaGreatDoorK48
set_option maxRecDepth 100000
namespace Go.Proofs.YtkpfpegjapddfaaGreatDoor
open Go.RowKit

set_option maxHeartbeats 4000000 in
theorem shows_big (s : ByteArray) (t : BitVec 256) (h : 50 < s.size) (w : World) (hL : Lay w) : Calls Tryz.prog 3 #[.string s, .agg #[.int .u64 (wd t 0), .int .u64 (wd t 1), .int .u64 (wd t 2), .int .u64 (wd t 3)]] w fun e w' => e = .returned (.bool true) ∧ Below w.heap.size w w' := by
  go_enter Tryz.func3, Tryz.ntmps3
  go_wp2_with (go_at_call 7; (with_reducible refine (awake_any _ (hL.below (below_1 _ _))).mono ?_); rintro e w1 ⟨rfl, hb1⟩)
  go_ret
  exact ⟨rfl, below_step (below_1 _ _) hb1⟩
set_option maxHeartbeats 4000000 in
theorem shows_small (s : ByteArray) (t : BitVec 256) (hs : s.size ≤ 50) (w : World) (hL : Lay w) : Calls Tryz.prog 3 #[.string s, .agg #[.int .u64 (wd t 0), .int .u64 (wd t 1), .int .u64 (wd t 2), .int .u64 (wd t 3)]] w fun e w' => e = .returned (.bool true) ∧ Below w.heap.size w w' := by
  have hx0 := SetAt.new w t
  have b0 : Below w.heap.size w (w.alloc (.cells #[.int .u64 (wd t 0), .int .u64 (wd t 1), .int .u64 (wd t 2), .int .u64 (wd t 3)] 24)) := below_1 _ _
  have hL0 := hL.below b0
  go_enter Tryz.func3, Tryz.ntmps3
  go_wp2_with (first
    | (go_at_call 7; (with_reducible refine (awake_any _ hL0).mono ?_); rintro e w1 ⟨rfl, hb1⟩)
    | (go_at_call 8; (with_reducible refine (make_any s _ (by omega)).mono ?_); rintro e w2 ⟨p, ks, rfl, hk2, hsz, ⟨hok, hsm⟩, hfit, hb2⟩; obtain ⟨a2, c2, rfl⟩ := hk2.kids.len))
  have hb01 := below_step b0 hb1
  have hb02 := below_step hb01 hb2
  have hb26 := below_1 w2 (.cells #[.int .i64 p.op, .int .u64 (wd p.set 0), .int .u64 (wd p.set 1), .int .u64 (wd p.set 2), .int .u64 (wd p.set 3), .int .i64 p.lo, .int .i64 p.hi, .slice a2 p.kids.length c2] 28)
  have hb06 := below_step hb02 hb26
  have hx6 := Box.new w2 #[.int .i64 p.op, .int .u64 (wd p.set 0), .int .u64 (wd p.set 1), .int .u64 (wd p.set 2), .int .u64 (wd p.set 3), .int .i64 p.lo, .int .i64 p.hi, .slice a2 p.kids.length c2] rfl
  have hs6 := ((hx0.grown hb1).grown hb2).grown hb26
  have hN : w2.heap.size < (w2.alloc (.cells #[.int .i64 p.op, .int .u64 (wd p.set 0), .int .u64 (wd p.set 1), .int .u64 (wd p.set 2), .int .u64 (wd p.set 3), .int .i64 p.lo, .int .i64 p.hi, .slice a2 p.kids.length c2] 28)).heap.size := by rw [World.size_alloc]; omega
  have hlt1 : w.heap.size < w1.heap.size := Nat.lt_of_lt_of_le (by rw [World.size_alloc]; omega) hb1.size
  have hle2 := hb2.size
  have hll := length_sizes p.kids
  have hse := size_eq p
  generalize w2.alloc (.cells #[.int .i64 p.op, .int .u64 (wd p.set 0), .int .u64 (wd p.set 1), .int .u64 (wd p.set 2), .int .u64 (wd p.set 3), .int .i64 p.lo, .int .i64 p.hi, .slice a2 p.kids.length c2] 28) = W at *
  clear hb1 hb2 hx0 b0 hL0 hb01 hb02
  go_cut [21] from 15 to 21 (fun _ wx => Ap7 w w.heap.size w2.heap.size p t wx)
  case first =>
    obtain ⟨s0, s1, s2, s3⟩ := hs6.cells
    have c7 := hx6.cell 7
    go_region_law (first
      | (go_simp; go_at_call 9; refine (rset_any t _).mono ?_; rintro e w4 ⟨rfl, hb4⟩; have hb4' : Below W.heap.size W w4 := (Below.refl W.heap.size W).drew.trans hb4; have hx4 := hx6.below hb4'; have c74 := hx4.cell 7; have hlx4 := hx4.lt; have hsz4 := hb4'.size)
      | (refine step_kids (.tmp 16) (.tmp 19) rfl rfl w2 w4 (w1.heap.size + 1) p.kids (.slice a2 p.kids.length c2) t hk2.kids hfit (below_step hb26 hb4') (by omega) (by omega) (by omega) rfl rfl ?_; intro v' w5 hK5 hg5; obtain ⟨a5, c5, rfl⟩ := ap7_form hK5; obtain ⟨c75, q75⟩ := ap7_cells hb4' hx6 hg5))
    all_goals
      go_wp2_with fail
      go_meet
      exact ap7_mk hb06 hb4' (by omega) (by omega) hs6 (by omega) (by omega) hx6 hg5 hK5
  case rest =>
    obtain ⟨a7, c7, hx7, hk7, hs7, hb07⟩ := hcut
    clear hx6 hs6 hb06 hb26 hk2 hfit
    obtain ⟨w7, hw7⟩ : ∃ x, x = wc := ⟨_, rfl⟩
    subst hw7
    have hL7 := hL.below hb07
    have hl3 := hs7.lt
    have hl6 := hx7.lt
    obtain ⟨d0, d1, d2, d3, d4, d5, d6, d7⟩ := hx7.cells
    by_cases h0 : p.op = 0
    · have q0 : (p.op == 0) = true := by rw [h0]; rfl
      clear h0
      go_wp2_with (go_at_call 8; (with_reducible refine (make_any s _ (by omega)).mono ?_); rintro e w8 ⟨n, ks8, rfl, hk8, hsz8, ⟨hok8, hsm8⟩, _, hb8⟩; obtain ⟨a8, c8, rfl⟩ := hk8.kids.len; have hx8 := hx7.below hb8; obtain ⟨f0, f1, f2, f3, f4, f5, f6, f7⟩ := hx8.frees; clear d0 d1 d2 d3 d4 d5 d6 d7; obtain ⟨d0, d1, d2, d3, d4, d5, d6, d7⟩ := hx8.cells)
      have hb08 := below_step hb07 hb8
      have hs8 := hs7.grown hb8
      have hb09 := below_set8 (b := w2.heap.size) hb08 (by omega) (.int .i64 n.op) (.int .u64 (wd n.set 0)) (.int .u64 (wd n.set 1)) (.int .u64 (wd n.set 2)) (.int .u64 (wd n.set 3)) (.int .i64 n.lo) (.int .i64 n.hi) (.slice a8 n.kids.length c8)
      refine Code.wp_mono then_false (reg10s_any _ _ w.heap.size w2.heap.size n t a8 _ c8 rfl (hx8.store _ _ _ _ _ _ _ _) (hk8.set8 (by omega) _ _ _ _ _ _ _ _).kids ((heap_set8 (by omega) _ _ _ _ _ _ _ _).trans hs8) (hL.below hb09).1 (by omega) hok8 hsm8 _ _ _ _ _ _ _ _ _ _ _ _ _ _ _ _ _ _ _ _ _ _ _ _ _ _ _ _ _ _ _ _ _ _ _ _ _ _ _ _ _ _ _ _ _ _ _ (Lib.hid ?_))
      intro v37 v38 v39 v40 v41 v42 v43 v44 v45 v46 v47 v48 wx hbx
      dsimp only
      go_wp2_with fail
      go_ret
      exact ⟨rfl, below_step hb09 hbx⟩
    by_cases h3 : p.op = 3
    · have q0 : (p.op == 0) = false := by rw [beq_eq_false_iff_ne]; exact h0
      have q3 : (p.op == 3) = true := by rw [h3]; rfl
      clear h0 h3
      go_wp2_with (go_at_call 8; (with_reducible refine (make_any s _ (by omega)).mono ?_); rintro e w8 ⟨n, ks8, rfl, hk8, hsz8, ⟨hok8, hsm8⟩, _, hb8⟩; obtain ⟨a8, c8, rfl⟩ := hk8.kids.len; have hx8 := hx7.below hb8; obtain ⟨f0, f1, f2, f3, f4, f5, f6, f7⟩ := hx8.frees; clear d0 d1 d2 d3 d4 d5 d6 d7; obtain ⟨d0, d1, d2, d3, d4, d5, d6, d7⟩ := hx8.cells)
      have hb08 := below_step hb07 hb8
      have hs8 := hs7.grown hb8
      have hb09 := below_set8 (b := w2.heap.size) hb08 (by omega) (.int .i64 n.op) (.int .u64 (wd n.set 0)) (.int .u64 (wd n.set 1)) (.int .u64 (wd n.set 2)) (.int .u64 (wd n.set 3)) (.int .i64 n.lo) (.int .i64 n.hi) (.slice a8 n.kids.length c8)
      refine Code.wp_mono then_false (reg10s_any _ _ w.heap.size w2.heap.size n t a8 _ c8 rfl (hx8.store _ _ _ _ _ _ _ _) (hk8.set8 (by omega) _ _ _ _ _ _ _ _).kids ((heap_set8 (by omega) _ _ _ _ _ _ _ _).trans hs8) (hL.below hb09).1 (by omega) hok8 hsm8 _ _ _ _ _ _ _ _ _ _ _ _ _ _ _ _ _ _ _ _ _ _ _ _ _ _ _ _ _ _ _ _ _ _ _ _ _ _ _ _ _ _ _ _ _ _ _ (Lib.hid ?_))
      intro v37 v38 v39 v40 v41 v42 v43 v44 v45 v46 v47 v48 wx hbx
      dsimp only
      go_wp2_with fail
      go_ret
      exact ⟨rfl, below_step hb09 hbx⟩
    by_cases h5 : p.op = 5
    · have q0 : (p.op == 0) = false := by rw [beq_eq_false_iff_ne]; exact h0
      have q3 : (p.op == 3) = false := by rw [beq_eq_false_iff_ne]; exact h3
      have q5 : (p.op == 5) = true := by rw [h5]; rfl
      clear h0 h3 h5
      go_wp2_with (go_at_call 8; (with_reducible refine (make_any s _ (by omega)).mono ?_); rintro e w8 ⟨n, ks8, rfl, hk8, hsz8, ⟨hok8, hsm8⟩, _, hb8⟩; obtain ⟨a8, c8, rfl⟩ := hk8.kids.len; have hx8 := hx7.below hb8; obtain ⟨f0, f1, f2, f3, f4, f5, f6, f7⟩ := hx8.frees; clear d0 d1 d2 d3 d4 d5 d6 d7; obtain ⟨d0, d1, d2, d3, d4, d5, d6, d7⟩ := hx8.cells)
      have hb08 := below_step hb07 hb8
      have hs8 := hs7.grown hb8
      have hb09 := below_set8 (b := w2.heap.size) hb08 (by omega) (.int .i64 n.op) (.int .u64 (wd n.set 0)) (.int .u64 (wd n.set 1)) (.int .u64 (wd n.set 2)) (.int .u64 (wd n.set 3)) (.int .i64 n.lo) (.int .i64 n.hi) (.slice a8 n.kids.length c8)
      refine Code.wp_mono then_false (reg10s_any _ _ w.heap.size w2.heap.size n t a8 _ c8 rfl (hx8.store _ _ _ _ _ _ _ _) (hk8.set8 (by omega) _ _ _ _ _ _ _ _).kids ((heap_set8 (by omega) _ _ _ _ _ _ _ _).trans hs8) (hL.below hb09).1 (by omega) hok8 hsm8 _ _ _ _ _ _ _ _ _ _ _ _ _ _ _ _ _ _ _ _ _ _ _ _ _ _ _ _ _ _ _ _ _ _ _ _ _ _ _ _ _ _ _ _ _ _ _ (Lib.hid ?_))
      intro v37 v38 v39 v40 v41 v42 v43 v44 v45 v46 v47 v48 wx hbx
      dsimp only
      go_wp2_with fail
      go_ret
      exact ⟨rfl, below_step hb09 hbx⟩
    have q0 : (p.op == 0) = false := by rw [beq_eq_false_iff_ne]; exact h0
    have q3 : (p.op == 3) = false := by rw [beq_eq_false_iff_ne]; exact h3
    have q5 : (p.op == 5) = false := by rw [beq_eq_false_iff_ne]; exact h5
    have hok' := push_ok p t h3 h5 hok
    have hsm' := push_sm p t h3 hsm
    have hsz' := push_size p t
    clear h0 h3 h5
    go_wp2_with fail
    refine Code.wp_mono then_false (reg10s_any _ _ w.heap.size w2.heap.size (Pat.mk p.op p.set p.lo p.hi (p.kids ++ [Pat.mk 0 t 0 0 []])) t a7 (p.kids.length + 1) c7 (by rw [kids_mk]; simp) hx7 hk7 hs7 hL7.1 (by omega) hok' hsm' _ _ _ _ _ _ _ _ _ _ _ _ _ _ _ _ _ _ _ _ _ _ _ _ _ _ _ _ _ _ _ _ _ _ _ _ _ _ _ _ _ _ _ _ _ _ _ (Lib.hid ?_))
    intro v37 v38 v39 v40 v41 v42 v43 v44 v45 v46 v47 v48 wx hbx
    dsimp only
    go_wp2_with fail
    go_ret
    exact ⟨rfl, below_step hb07 hbx⟩
theorem shows_any (s : ByteArray) (t : BitVec 256) (w : World) (hL : Lay w) : Calls Tryz.prog 3 #[.string s, .agg #[.int .u64 (wd t 0), .int .u64 (wd t 1), .int .u64 (wd t 2), .int .u64 (wd t 3)]] w fun e w' => e = .returned (.bool true) ∧ Below w.heap.size w w' := by
  by_cases h : 50 < s.size
  · exact shows_big s t h w hL
  · exact shows_small s t (by omega) w hL
end Go.Proofs.YtkpfpegjapddfaaGreatDoor
