/- Texts that a proof rests on: Contract of the reference's Class. | Contracts of the reference's small, ending. -/
import Derived.Test.YtkpfpegjapddfaaGreatDoorK39
set_option maxRecDepth 20000
namespace Go.Proofs.YtkpfpegjapddfaaGreatDoor
open Go.RowKit

theorem fstV_pair (r : Nat) : ∃ (x : Nat) (y : Bool), fstV r = .tuple #[.int .u8 x, .bool y] := by
  unfold fstV
  split
  · exact ⟨r, true, rfl⟩
  · exact ⟨0, false, rfl⟩
theorem rfirst_zero (s : BitVec 256) (v : Value) (hv : fstV (fst s 0) = v) (w : World) : Calls Tryz.prog 33 #[(.agg #[.int .u64 (wd (s) 0), .int .u64 (wd (s) 1), .int .u64 (wd (s) 2), .int .u64 (wd (s) 3)]), .int .i64 0] w fun e w' => e = .returned v ∧ Below w.heap.size w w' := by
  subst hv
  exact rfirst_nat s 0 0 (.inr rfl) (by omega) w
theorem rof_nl (w : World) : Calls Tryz.prog 38 #[.string ⟨#[10]⟩] w fun e w' => e = .returned (.agg #[.int .u64 (wd (ofB [10]) 0), .int .u64 (wd (ofB [10]) 1), .int .u64 (wd (ofB [10]) 2), .int .u64 (wd (ofB [10]) 3)]) ∧ Below w.heap.size w w' := rof_any ⟨#[10]⟩ w (by decide)
theorem escaped_nat (c : Nat) (hc : c < 256) (h : plainB c = false) (w : World) :
    Calls Tryz.prog 36 #[.int .u8 (c : Int)] w fun e w' => (∃ z : ByteArray, e = .returned (.string z) ∧ z.data.toList = escOut (UInt8.ofNat c)) ∧ Below w.heap.size w w' := by
  have e1 : (UInt8.ofNat c).toNat = c := by simp; omega
  have := escaped_any (UInt8.ofNat c) w
  rw [e1, resc_plain _ (by rw [e1]; exact h)] at this
  exact this
set_option maxHeartbeats 4000000 in
theorem rclass_any (s : BitVec 256) (w : World) :
    Calls Tryz.prog 13 #[(.agg #[.int .u64 (wd (s) 0), .int .u64 (wd (s) 1), .int .u64 (wd (s) 2), .int .u64 (wd (s) 3)])] w fun e w' => (∃ z : ByteArray, e = .returned (.string z) ∧ z.data.toList = classOut s) ∧ Below w.heap.size w w' := by
  have hx0 := SetAt.new w s
  have b0 := below_one w (.cells #[.int .u64 (wd s 0), .int .u64 (wd s 1), .int .u64 (wd s 2), .int .u64 (wd s 3)] 24)
  unfold classOut
  by_cases h1 : cnt s 256 = 1
  · rw [if_pos h1]
    have hf := fst_one s h1
    have hv := fstV_in hf
    have q1 : ((cnt s 256 : Int) == 1) = true := by rw [h1]; rfl
    clear h1
    unfold byteOut
    cases hp : plainB (fst s 0)
    · rw [if_neg (by decide)]
      go_enter Tryz.func13, Tryz.ntmps13
      go_wp2_with (first
        | (go_at_call 33; (with_reducible refine (rfirst_zero s _ hv _).mono ?_); rintro e w1 ⟨rfl, hb1⟩; have hx1 := hx0.grown hb1; obtain ⟨c0, c1, c2, c3⟩ := hx1.cells)
        | (go_at_call 34; (with_reducible refine (rcount_any s _).mono ?_); rintro e w2 ⟨rfl, hb2⟩)
        | (go_at_call 35; refine (rplain_any (fst s 0) hf _).mono ?_; rw [hp]; rintro e w3 ⟨rfl, rfl⟩)
        | (go_at_call 36; refine (escaped_nat (fst s 0) hf hp _).mono ?_; rintro e w4 ⟨⟨z, rfl, hz⟩, hb4⟩))
      go_ret
      exact ⟨⟨z, rfl, hz⟩, below_step (below_step (below_step b0 hb1) hb2) hb4⟩
    · rw [if_pos rfl]
      go_enter Tryz.func13, Tryz.ntmps13
      go_wp2_with (first
        | (go_at_call 33; (with_reducible refine (rfirst_zero s _ hv _).mono ?_); rintro e w1 ⟨rfl, hb1⟩; have hx1 := hx0.grown hb1; obtain ⟨c0, c1, c2, c3⟩ := hx1.cells)
        | (go_at_call 34; (with_reducible refine (rcount_any s _).mono ?_); rintro e w2 ⟨rfl, hb2⟩; have hn := heap_alloc_new w2 (.cells #[.int .u8 (fst s 0 : Int)] 5); have hcv := conv_one (fst s 0 : Int) w2.heap.size (w2.alloc (.cells #[.int .u8 (fst s 0 : Int)] 5)) (by rw [Lib.cell_of_heap hn]; rfl); rw [Int.toNat_natCast] at hcv)
        | (go_at_call 35; refine (rplain_any (fst s 0) hf _).mono ?_; rw [hp]; rintro e w3 ⟨rfl, rfl⟩))
      go_ret
      exact ⟨⟨_, rfl, rfl⟩, below_step (below_step (below_step b0 hb1) hb2) (below_one _ _)⟩
  · rw [if_neg h1]
    obtain ⟨x, y, hv⟩ := fstV_pair (fst s 0)
    have q1 : ((cnt s 256 : Int) == 1) = false := by rw [beq_eq_false_iff_ne]; omega
    clear h1
    by_cases h2 : s = dotS
    · rw [if_pos h2]
      have hq : ∀ w, (Op.equalIn 10000 24 (.agg #[.int .u64 (wd (~~~s) 0), .int .u64 (wd (~~~s) 1), .int .u64 (wd (~~~s) 2), .int .u64 (wd (~~~s) 3)]) (.agg #[.int .u64 (wd (ofB [10]) 0), .int .u64 (wd (ofB [10]) 1), .int .u64 (wd (ofB [10]) 2), .int .u64 (wd (ofB [10]) 3)])).run Tryz.prog w = .ok true w := fun w => by
        rw [eq_set, decide_eq_true (by rw [h2]; exact bv_not_not _)]
      clear h2
      go_enter Tryz.func13, Tryz.ntmps13
      go_wp2_with (first
        | (go_at_call 33; (with_reducible refine (rfirst_zero s _ hv _).mono ?_); rintro e w1 ⟨rfl, hb1⟩; have hx1 := hx0.grown hb1; obtain ⟨c0, c1, c2, c3⟩ := hx1.cells)
        | (go_at_call 34; (with_reducible refine (rcount_any s _).mono ?_); rintro e w2 ⟨rfl, hb2⟩; have hx2 := hx1.grown hb2; obtain ⟨d0, d1, d2, d3⟩ := hx2.cells)
        | (go_at_call 37; (with_reducible refine (rnot_any s _).mono ?_); rintro e w3 ⟨rfl, hb3⟩)
        | (go_at_call 38; (with_reducible refine (rof_nl _).mono ?_); rintro e w4 ⟨rfl, hb4⟩))
      go_ret
      exact ⟨⟨_, rfl, rfl⟩, below_step (below_step (below_step (below_step b0 hb1) hb2) hb3) hb4⟩
    · rw [if_neg h2]
      have hq : ∀ w, (Op.equalIn 10000 24 (.agg #[.int .u64 (wd (~~~s) 0), .int .u64 (wd (~~~s) 1), .int .u64 (wd (~~~s) 2), .int .u64 (wd (~~~s) 3)]) (.agg #[.int .u64 (wd (ofB [10]) 0), .int .u64 (wd (ofB [10]) 1), .int .u64 (wd (ofB [10]) 2), .int .u64 (wd (ofB [10]) 3)])).run Tryz.prog w = .ok false w := fun w => by
        rw [eq_set, decide_eq_false (fun h => h2 (by unfold dotS; rw [← h, bv_not_not]))]
      clear h2
      unfold clsOut
      by_cases h3 : 128 < cnt s 256
      · rw [if_pos h3]
        go_enter Tryz.func13, Tryz.ntmps13
        go_wp2_with (first
          | (go_at_call 33; (with_reducible refine (rfirst_zero s _ hv _).mono ?_); rintro e w1 ⟨rfl, hb1⟩; have hx1 := hx0.grown hb1; obtain ⟨c0, c1, c2, c3⟩ := hx1.cells)
          | (go_at_call 34; (with_reducible refine (rcount_any s _).mono ?_); rintro e w2 ⟨rfl, hb2⟩; have hx2 := hx1.grown hb2; obtain ⟨d0, d1, d2, d3⟩ := hx2.cells)
          | (go_at_call 38; (with_reducible refine (rof_nl _).mono ?_); rintro e w4 ⟨rfl, hb4⟩; have hx4 := hx3.grown hb4; obtain ⟨f0, f1, f2, f3⟩ := hx4.cells)
          | (go_at_call 37; (with_reducible refine (rnot_any s _).mono ?_); first | (rintro e w5 ⟨rfl, hb5⟩; have := hx4.lt) | (rintro e w3 ⟨rfl, hb3⟩; have hx3 := hx2.grown hb3))
          | (go_at_call 39; (with_reducible refine (rows_any (~~~s) _).mono ?_); rintro e w6 ⟨⟨z, rfl, hz, hzs⟩, hb6⟩))
        go_ret
        exact ⟨⟨_, rfl, by rw [str_cat, str_cat, hz]; simp⟩, below_step (below_step (below_step (below_step (below_step (below_step b0 hb1) hb2) hb3) hb4) hb5) hb6⟩
      · rw [if_neg h3]
        go_enter Tryz.func13, Tryz.ntmps13
        go_wp2_with (first
          | (go_at_call 33; (with_reducible refine (rfirst_zero s _ hv _).mono ?_); rintro e w1 ⟨rfl, hb1⟩; have hx1 := hx0.grown hb1; obtain ⟨c0, c1, c2, c3⟩ := hx1.cells)
          | (go_at_call 34; (with_reducible refine (rcount_any s _).mono ?_); rintro e w2 ⟨rfl, hb2⟩; have hx2 := hx1.grown hb2; obtain ⟨d0, d1, d2, d3⟩ := hx2.cells)
          | (go_at_call 37; (with_reducible refine (rnot_any s _).mono ?_); rintro e w3 ⟨rfl, hb3⟩; have hx3 := hx2.grown hb3)
          | (go_at_call 38; (with_reducible refine (rof_nl _).mono ?_); rintro e w4 ⟨rfl, hb4⟩; have hx4 := hx3.grown hb4; obtain ⟨f0, f1, f2, f3⟩ := hx4.cells)
          | (go_at_call 39; (with_reducible refine (rows_any s _).mono ?_); rintro e w6 ⟨⟨z, rfl, hz, hzs⟩, hb6⟩))
        go_ret
        exact ⟨⟨_, rfl, by rw [str_cat, str_cat, hz]; simp⟩, below_step (below_step (below_step (below_step (below_step b0 hb1) hb2) hb3) hb4) hb6⟩
end Go.Proofs.YtkpfpegjapddfaaGreatDoor
set_option maxRecDepth 20000
namespace Go.Proofs.YtkpfpegjapddfaaGreatDoor
open Go.RowKit

theorem dig_cut (n : Nat) (h : n < 10) : ((⟨#[48, 49, 50, 51, 52, 53, 54, 55, 56, 57]⟩ : ByteArray).extract n (n + 1)).data.toList = [UInt8.ofNat (48 + n)] := by
  have hk : ∀ n : Fin 10, ((⟨#[48, 49, 50, 51, 52, 53, 54, 55, 56, 57]⟩ : ByteArray).extract n.val (n.val + 1)).data.toList = [UInt8.ofNat (48 + n.val)] := by decide +kernel
  exact hk ⟨n, h⟩
theorem dec_one (n : Nat) (h : n < 10) : Lib.decDigits n = [UInt8.ofNat (48 + n)] := by
  rw [Lib.decDigits, dif_pos h]
theorem dec_two (n : Nat) (h : 10 ≤ n) (h2 : n < 100) : Lib.decDigits n = [UInt8.ofNat (48 + n / 10), UInt8.ofNat (48 + n % 10)] := by
  rw [Lib.decDigits, dif_neg (by omega), dec_one _ (by omega)]
  rfl
set_option maxHeartbeats 1000000 in
theorem small_nat (n : Nat) (h : n < 100) (w : World) :
    Calls Tryz.prog 48 #[.int .i64 (n : Int)] w fun e w' => (∃ z : ByteArray, e = .returned (.string z) ∧ z.data.toList = Lib.decDigits n ∧ z.size ≤ 2) ∧ Below w.heap.size w w' := by
  have hsz : ∀ z : ByteArray, z.data.toList = Lib.decDigits n → z.size ≤ 2 := fun z hz => by
    rw [← str_len, hz]
    exact decDigits_len n h
  by_cases h1 : n < 10
  · go_enter Tryz.func48, Tryz.ntmps48
    go_wp2
    go_ret
    have hz : ((⟨#[48, 49, 50, 51, 52, 53, 54, 55, 56, 57]⟩ : ByteArray).extract n (n + 1)).data.toList = Lib.decDigits n := by rw [dig_cut n h1, dec_one n h1]
    exact ⟨⟨_, rfl, hz, hsz _ hz⟩, Below.refl _ _⟩
  · have d1 : ((n : Int).tdiv 10) = ((n / 10 : Nat) : Int) := by rw [Int.tdiv_eq_ediv_of_nonneg (by omega)]; omega
    have d2 : ((n : Int).tmod 10) = ((n % 10 : Nat) : Int) := by rw [Int.tmod_eq_emod_of_nonneg (by omega)]; omega
    have m1 : n / 10 < 10 := by omega
    have m2 : n % 10 < 10 := by omega
    go_enter Tryz.func48, Tryz.ntmps48
    go_wp2
    go_region
    all_goals
      go_wp2
      go_ret
      have hz : (((⟨#[48, 49, 50, 51, 52, 53, 54, 55, 56, 57]⟩ : ByteArray).extract (n / 10) (n / 10 + 1)) ++ ((⟨#[48, 49, 50, 51, 52, 53, 54, 55, 56, 57]⟩ : ByteArray).extract (n % 10) (n % 10 + 1))).data.toList = Lib.decDigits n := by
        rw [str_cat, dig_cut _ m1, dig_cut _ m2, dec_two n (by omega) h]
        rfl
      exact ⟨⟨_, rfl, hz, hsz _ hz⟩, (Below.refl _ _).drew⟩
theorem small_any (n : Int) (h0 : 0 ≤ n) (h1 : n < 100) (w : World) :
    Calls Tryz.prog 48 #[.int .i64 n] w fun e w' => (∃ z : ByteArray, e = .returned (.string z) ∧ z.data.toList = Lib.decDigits n.toNat ∧ z.size ≤ 2) ∧ Below w.heap.size w w' := by
  have := small_nat n.toNat (by omega) w
  rw [Int.toNat_of_nonneg h0] at this
  exact this
set_option maxHeartbeats 2000000 in
theorem ending_any (lo hi : Int) (h0 : 0 ≤ lo) (h1 : lo < 100) (h2 : hi < 100) (w : World) :
    Calls Tryz.prog 25 #[.int .i64 lo, .int .i64 hi] w fun e w' => (∃ z : ByteArray, e = .returned (.string z) ∧ z.data.toList = repOut lo hi) ∧ Below w.heap.size w w' := by
  unfold repOut opT
  by_cases hn : hi < 0
  · have hm : max hi (-1) = -1 := by omega
    rw [hm]
    by_cases l0 : lo = 0
    · subst l0
      go_enter Tryz.func25, Tryz.ntmps25
      go_wp2
      go_ret
      exact ⟨⟨_, rfl, rfl⟩, Below.refl _ _⟩
    · have q0 : (lo == 0) = false := by rw [beq_eq_false_iff_ne]; exact l0
      by_cases l1 : lo = 1
      · subst l1
        go_enter Tryz.func25, Tryz.ntmps25
        go_wp2
        go_ret
        exact ⟨⟨_, rfl, rfl⟩, Below.refl _ _⟩
      · have q1 : (lo == 1) = false := by rw [beq_eq_false_iff_ne]; exact l1
        have l3 : ¬ (-1 : Int) = lo := by omega
        rw [if_neg (fun h => l0 h.1), if_neg (fun h => l1 h.1), if_neg (fun h => l0 h.1)]
        simp only
        rw [if_pos l3, if_neg (fun h => h.2 rfl)]
        clear l0 l1 l3 hm
        go_enter Tryz.func25, Tryz.ntmps25
        go_wp2_with (first
          | (go_at_call 48; (with_reducible refine (small_any lo h0 h1 _).mono ?_); rintro e w1 ⟨⟨z, rfl, hz, hzs⟩, hb1⟩))
        go_ret
        exact ⟨⟨_, rfl, by rw [str_cat, str_cat, hz]; simp⟩, hb1⟩
  · have hm : max hi (-1) = hi := by omega
    rw [hm]
    by_cases l0 : lo = 0 ∧ hi = 1
    · obtain ⟨rfl, rfl⟩ := l0
      go_enter Tryz.func25, Tryz.ntmps25
      go_wp2
      go_ret
      exact ⟨⟨_, rfl, rfl⟩, Below.refl _ _⟩
    · rw [if_neg (by omega), if_neg (by omega), if_neg l0]
      simp only
      have hlo : (lo == 0 && hi == 1) = false := by
        rw [Bool.eq_false_iff]
        intro h
        simp at h
        exact l0 h
      by_cases l2 : hi = lo
      · subst l2
        rw [if_neg (by simp), if_neg (by simp)]
        by_cases l4 : hi = 0
        · have q5 : (hi == 1) = false := by rw [beq_eq_false_iff_ne]; omega
          have q0 : (hi == 0) = true := by rw [l4]; rfl
          clear l0 hm hlo l4
          go_enter Tryz.func25, Tryz.ntmps25
          go_wp2_with (first
            | (go_at_call 48; (with_reducible refine (small_any hi h0 h1 _).mono ?_); rintro e w1 ⟨⟨z, rfl, hz, hzs⟩, hb1⟩))
          go_ret
          exact ⟨⟨_, rfl, by rw [str_cat, str_cat, hz]; simp⟩, hb1⟩
        · have q0 : (hi == 0) = false := by rw [beq_eq_false_iff_ne]; exact l4
          clear l0 hm hlo l4
          obtain ⟨v, hv⟩ : ∃ v, (hi == 1) = v := ⟨_, rfl⟩
          cases v
          all_goals
            go_enter Tryz.func25, Tryz.ntmps25
            go_wp2_with (first
              | (go_at_call 48; (with_reducible refine (small_any hi h0 h1 _).mono ?_); rintro e w1 ⟨⟨z, rfl, hz, hzs⟩, hb1⟩))
            go_ret
            exact ⟨⟨_, rfl, by rw [str_cat, str_cat, hz]; simp⟩, hb1⟩
      · have q2 : (hi == lo) = false := by rw [beq_eq_false_iff_ne]; exact l2
        rw [if_pos l2, if_pos ⟨l2, by omega⟩]
        have h3 : 0 ≤ hi := by omega
        by_cases l4 : lo = 0
        · have q5 : (hi == 1) = false := by rw [beq_eq_false_iff_ne]; exact fun h => l0 ⟨l4, h⟩
          have q0 : (lo == 0) = true := by rw [l4]; rfl
          have q6 : (lo == 1) = false := by rw [l4]; rfl
          clear l0 hm hlo l4 l2
          go_enter Tryz.func25, Tryz.ntmps25
          go_wp2_with (first
            | (go_at_call 48; (with_reducible refine (small_any lo h0 h1 _).mono ?_); rintro e w1 ⟨⟨z, rfl, hz, hzs⟩, hb1⟩)
            | (go_at_call 48; (with_reducible refine (small_any hi h3 h2 _).mono ?_); rintro e w2 ⟨⟨z2, rfl, hz2, hzs2⟩, hb2⟩))
          go_ret
          exact ⟨⟨_, rfl, by rw [str_cat, str_cat, str_cat, str_cat, hz, hz2]; simp⟩, below_step hb1 hb2⟩
        · have q0 : (lo == 0) = false := by rw [beq_eq_false_iff_ne]; exact l4
          clear l0 hm hlo l4 l2
          obtain ⟨v, hv⟩ : ∃ v, (lo == 1) = v := ⟨_, rfl⟩
          cases v
          all_goals
            go_enter Tryz.func25, Tryz.ntmps25
            go_wp2_with (first
              | (go_at_call 48; (with_reducible refine (small_any lo h0 h1 _).mono ?_); rintro e w1 ⟨⟨z, rfl, hz, hzs⟩, hb1⟩)
              | (go_at_call 48; (with_reducible refine (small_any hi h3 h2 _).mono ?_); rintro e w2 ⟨⟨z2, rfl, hz2, hzs2⟩, hb2⟩))
            go_ret
            exact ⟨⟨_, rfl, by rw [str_cat, str_cat, str_cat, str_cat, hz, hz2]; simp⟩, below_step hb1 hb2⟩
end Go.Proofs.YtkpfpegjapddfaaGreatDoor
