/- Contracts: Of, Count, and the references of Of, Not, Count, First. -/
import Derived.Test.YtocllbdfdmpopaaDoorW3
import Derived.StillTailTactics
set_option maxRecDepth 20000
namespace Go.Proofs.YtocllbdfdmpopaaDoor
open Go.RowKit

/-- The set of a row of bytes. -/
def ofB (l : List UInt8) : BitVec 256 := ofP (fun b => l.any (fun c => c.toNat == b))
theorem ofB_nil : ofB [] = 0 := by
  apply bv_ext
  intro b hb
  unfold ofB
  rw [get_ofP _ _ hb]
  simp
theorem ofB_snoc (l : List UInt8) (c : UInt8) : put (ofB l) c.toNat = ofB (l ++ [c]) := by
  apply bv_ext
  intro b hb
  have hc : c.toNat < 256 := c.toNat_lt
  rw [get_put _ _ _ hc]
  unfold ofB
  rw [get_ofP _ _ hb, get_ofP _ _ hb, List.any_append]
  have e : (c.toNat == b) = decide (b = c.toNat) := by rw [Bool.eq_iff_iff, beq_iff_eq, decide_eq_true_iff]; exact eq_comm
  simp [e]
theorem take_snoc (s : ByteArray) (k : Nat) (h : k < s.size) : s.data.toList.take (k + 1) = s.data.toList.take k ++ [s[k]] := by
  rw [List.take_succ_eq_append_getElem (by simpa using h)]; rfl
set_option maxHeartbeats 1000000 in
theorem of_any (s : ByteArray) (w : World) (hlen : s.size ≤ maxLen) :
    Calls Tryd.prog 22 #[.string s] w fun e w' => e = .returned (.agg #[.int .u64 (wd (ofB s.data.toList) 0), .int .u64 (wd (ofB s.data.toList) 1), .int .u64 (wd (ofB s.data.toList) 2), .int .u64 (wd (ofB s.data.toList) 3)]) ∧ Below w.heap.size w w' := by
  unfold maxLen at hlen
  go_enter Tryd.func22, Tryd.ntmps22
  go_wp2
  go_loopw [4] (fun i wr => ∃ k : Nat, k ≤ s.size ∧ i = .int .i64 k ∧ SetAt wr (w.heap.size + 1) (ofB (s.data.toList.take k)) ∧ SetAt wr w.heap.size 0 ∧ Below w.heap.size w wr) (fun i _ => s.size - (intOf i).toNat)
  case atStart =>
    obtain ⟨h1, h2, h3⟩ := @atStart_two w
    exact ⟨0, by omega, rfl, by rw [List.take_zero, ofB_nil]; exact h1, h2, h3⟩
  case round =>
    obtain ⟨k, hk, rfl, hs, hz, hbw⟩ := hrel
    by_cases hlt : k < s.size
    · obtain ⟨c0, c1, c2, c3⟩ := hs.cells
      go_wp2_with fail
      go_still_tail 4, (by kernel_rfl)
      change wpList _ _ _ _ _ wr.drew
      obtain ⟨w2, hw2⟩ : ∃ w2, w2 = wr.drew := ⟨_, rfl⟩
      have hs2 : SetAt w2 (w.heap.size + 1) (ofB (s.data.toList.take k)) := by rw [hw2]; exact hs
      have hz2 : SetAt w2 w.heap.size 0 := by rw [hw2]; exact hz
      have hbw2 : Below w.heap.size w w2 := by rw [hw2]; exact hbw.drew
      rw [← hw2]
      clear hw2 hs hz hbw c0 c1 c2 c3
      go_wp2_with (go_at_call 36; refine (with_any _ _ (UInt8.toNat_lt _) _).mono ?_; rintro e w' ⟨rfl, hb1⟩; obtain ⟨d0, d1, d2, d3⟩ := (hs2.grown hb1).cells; obtain ⟨g0, g1, g2, g3⟩ := (hs2.grown hb1).free)
      go_roundw
      case rel =>
        refine ⟨k + 1, by omega, num_succ k, ?_, (hz2.grown hb1).other4 (by omega) _ _ _ _, below_set4 (hbw2.trans (hb1.mono hbw2.size)) (by omega) _ _ _ _⟩
        rw [take_snoc s k hlt, ← ofB_snoc]
        exact (hs2.grown hb1).store _
      case measure => simp [intOf]; omega
    · obtain ⟨c0, c1, c2, c3⟩ := hs.cells
      obtain ⟨d0, d1, d2, d3⟩ := hz.cells
      obtain ⟨g0, g1, g2, g3⟩ := hz.free
      have he : s.data.toList.take k = s.data.toList := List.take_of_length_le (by simp; omega)
      rw [he] at c0 c1 c2 c3
      clear he
      go_wp2
      refine bodyPost_ret (v := (.agg #[.int .u64 (wd (ofB s.data.toList) 0), .int .u64 (wd (ofB s.data.toList) 1), .int .u64 (wd (ofB s.data.toList) 2), .int .u64 (wd (ofB s.data.toList) 3)])) (by simp [results, Tryd.results22, go_sem, *]) rfl ⟨rfl, ?_⟩
      exact below_set4 hbw (Nat.le_refl _) _ _ _ _
set_option maxHeartbeats 1000000 in
theorem rof_any (s : ByteArray) (w : World) (hlen : s.size ≤ maxLen) :
    Calls Tryd.prog 23 #[.string s] w fun e w' => e = .returned (.agg #[.int .u64 (wd (ofB s.data.toList) 0), .int .u64 (wd (ofB s.data.toList) 1), .int .u64 (wd (ofB s.data.toList) 2), .int .u64 (wd (ofB s.data.toList) 3)]) ∧ Below w.heap.size w w' := by
  unfold maxLen at hlen
  go_enter Tryd.func23, Tryd.ntmps23
  go_wp2
  go_loopw [4] (fun i wr => ∃ k : Nat, k ≤ s.size ∧ i = .int .i64 k ∧ SetAt wr (w.heap.size + 1) (ofB (s.data.toList.take k)) ∧ SetAt wr w.heap.size 0 ∧ Below w.heap.size w wr) (fun i _ => s.size - (intOf i).toNat)
  case atStart =>
    obtain ⟨h1, h2, h3⟩ := @atStart_two w
    exact ⟨0, by omega, rfl, by rw [List.take_zero, ofB_nil]; exact h1, h2, h3⟩
  case round =>
    obtain ⟨k, hk, rfl, hs, hz, hbw⟩ := hrel
    by_cases hlt : k < s.size
    · obtain ⟨c0, c1, c2, c3⟩ := hs.cells
      go_wp2_with fail
      go_still_tail 4, (by kernel_rfl)
      change wpList _ _ _ _ _ wr.drew
      obtain ⟨w2, hw2⟩ : ∃ w2, w2 = wr.drew := ⟨_, rfl⟩
      have hs2 : SetAt w2 (w.heap.size + 1) (ofB (s.data.toList.take k)) := by rw [hw2]; exact hs
      have hz2 : SetAt w2 w.heap.size 0 := by rw [hw2]; exact hz
      have hbw2 : Below w.heap.size w w2 := by rw [hw2]; exact hbw.drew
      rw [← hw2]
      clear hw2 hs hz hbw c0 c1 c2 c3
      go_wp2_with (go_at_call 35; refine (rwith_any _ _ (UInt8.toNat_lt _) _).mono ?_; rintro e w' ⟨rfl, hb1⟩; obtain ⟨d0, d1, d2, d3⟩ := (hs2.grown hb1).cells; obtain ⟨g0, g1, g2, g3⟩ := (hs2.grown hb1).free)
      go_roundw
      case rel =>
        refine ⟨k + 1, by omega, num_succ k, ?_, (hz2.grown hb1).other4 (by omega) _ _ _ _, below_set4 (hbw2.trans (hb1.mono hbw2.size)) (by omega) _ _ _ _⟩
        rw [take_snoc s k hlt, ← ofB_snoc]
        exact (hs2.grown hb1).store _
      case measure => simp [intOf]; omega
    · obtain ⟨c0, c1, c2, c3⟩ := hs.cells
      obtain ⟨d0, d1, d2, d3⟩ := hz.cells
      obtain ⟨g0, g1, g2, g3⟩ := hz.free
      have he : s.data.toList.take k = s.data.toList := List.take_of_length_le (by simp; omega)
      rw [he] at c0 c1 c2 c3
      clear he
      go_wp2
      refine bodyPost_ret (v := (.agg #[.int .u64 (wd (ofB s.data.toList) 0), .int .u64 (wd (ofB s.data.toList) 1), .int .u64 (wd (ofB s.data.toList) 2), .int .u64 (wd (ofB s.data.toList) 3)])) (by simp [results, Tryd.results23, go_sem, *]) rfl ⟨rfl, ?_⟩
      exact below_set4 hbw (Nat.le_refl _) _ _ _ _
set_option maxHeartbeats 1000000 in
theorem count_any (s : BitVec 256) (w : World) :
    Calls Tryd.prog 13 #[(.agg #[.int .u64 (wd (s) 0), .int .u64 (wd (s) 1), .int .u64 (wd (s) 2), .int .u64 (wd (s) 3)])] w fun e w' => e = .returned (.int .i64 (cnt s 256)) ∧ Below w.heap.size w w' := by
  have i0 := ix0 (.int .u64 (wd s 0)) (.int .u64 (wd s 1)) (.int .u64 (wd s 2)) (.int .u64 (wd s 3))
  have i1 := ix1 (.int .u64 (wd s 0)) (.int .u64 (wd s 1)) (.int .u64 (wd s 2)) (.int .u64 (wd s 3))
  have i2 := ix2 (.int .u64 (wd s 0)) (.int .u64 (wd s 1)) (.int .u64 (wd s 2)) (.int .u64 (wd s 3))
  have i3 := ix3 (.int .u64 (wd s 0)) (.int .u64 (wd s 1)) (.int .u64 (wd s 2)) (.int .u64 (wd s 3))
  have p0 := popT_le 64 (wd s 0)
  have p1 := popT_le 64 (wd s 1)
  have p2 := popT_le 64 (wd s 2)
  have p3 := popT_le 64 (wd s 3)
  go_enter Tryd.func13, Tryd.ntmps13
  go_wp2
  refine wp_loop_rounds 5 ?_
  rw [rounds_succ]; go_wp2_with (go_at_call 33; refine (oc_any _ (wd_lt _ _) _).mono ?_; rintro e w' ⟨rfl, rfl⟩)
  rw [rounds_succ]; go_wp2_with (go_at_call 33; refine (oc_any _ (wd_lt _ _) _).mono ?_; rintro e w' ⟨rfl, rfl⟩)
  rw [rounds_succ]; go_wp2_with (go_at_call 33; refine (oc_any _ (wd_lt _ _) _).mono ?_; rintro e w' ⟨rfl, rfl⟩)
  rw [rounds_succ]; go_wp2_with (go_at_call 33; refine (oc_any _ (wd_lt _ _) _).mono ?_; rintro e w' ⟨rfl, rfl⟩)
  rw [rounds_succ]; go_wp2
  go_ret
  refine ⟨?_, (Below.refl _ _).alloc (Nat.le_refl _) _⟩
  rw [cnt_all]
  show Ending.returned (.int .i64 ((popT 64 (wd s 0) : Int) + popT 64 (wd s 1) + popT 64 (wd s 2) + popT 64 (wd s 3))) = _
  congr 2
/-- A set boxed for a call, and kept. -/
theorem box_start (w : World) (s : BitVec 256) : SetAt (w.alloc (.cells #[.int .u64 (wd s 0), .int .u64 (wd s 1), .int .u64 (wd s 2), .int .u64 (wd s 3)] 24)) w.heap.size s ∧ Below w.heap.size w (w.alloc (.cells #[.int .u64 (wd s 0), .int .u64 (wd s 1), .int .u64 (wd s 2), .int .u64 (wd s 3)] 24)) :=
  ⟨SetAt.new w s, (Below.refl _ _).alloc (Nat.le_refl _) _⟩
set_option maxHeartbeats 1000000 in
theorem rcount_any (s : BitVec 256) (w : World) :
    Calls Tryd.prog 14 #[(.agg #[.int .u64 (wd (s) 0), .int .u64 (wd (s) 1), .int .u64 (wd (s) 2), .int .u64 (wd (s) 3)])] w fun e w' => e = .returned (.int .i64 (cnt s 256)) ∧ Below w.heap.size w w' := by
  go_enter Tryd.func14, Tryd.ntmps14
  go_wp2
  go_loopw [3, 4] (fun n i wr => ∃ k : Nat, k ≤ 256 ∧ i = .int .i64 k ∧ n = .int .i64 (cnt s k) ∧ SetAt wr w.heap.size s ∧ Below w.heap.size w wr) (fun _ i _ => 256 - (intOf i).toNat)
  case atStart => exact ⟨0, by omega, rfl, rfl, (box_start w s).1, (box_start w s).2⟩
  case round =>
    obtain ⟨k, hk, rfl, rfl, hs, hbw⟩ := hrel
    have hcl := cnt_le s k
    by_cases hlt : k < 256
    · obtain ⟨c0, c1, c2, c3⟩ := hs.cells
      cases hbit : s.getLsbD k
      all_goals
        have HB := Lib.hid hbit
        clear hbit
        go_wp2_with (go_at_call 12; refine (rhas_any s k hlt _).mono ?_; rw [HB.out]; rintro e w' ⟨rfl, hb1⟩)
        go_roundw
        case rel => exact ⟨k + 1, by omega, num_succ k, by rw [cnt, HB.out]; rfl, hs.grown hb1, hbw.trans (hb1.mono hbw.size)⟩
        case measure => simp [intOf]; omega
    · obtain rfl : k = 256 := by omega
      go_wp2
      go_ret
      exact ⟨rfl, hbw⟩
set_option maxHeartbeats 1000000 in
theorem rfirst_nat (s : BitVec 256) (b : Nat) (f : Int) (hf : (f < 0 ∧ b = 0) ∨ f = b) (hb : b ≤ 9223372036854775807) (w : World) :
    Calls Tryd.prog 10 #[(.agg #[.int .u64 (wd (s) 0), .int .u64 (wd (s) 1), .int .u64 (wd (s) 2), .int .u64 (wd (s) 3)]), .int .i64 f] w fun e w' => e = .returned (fstV (fst s b)) ∧ Below w.heap.size w w' := by
  rcases hf with ⟨hf, rfl⟩ | rfl
  all_goals
    go_enter Tryd.func10, Tryd.ntmps10
    go_wp2
    go_loopw [6] (fun i wr => ∃ k : Nat, k ≤ 9223372036854775807 ∧ i = .int .i64 k ∧ Hid (fst s k = fst s _) ∧ SetAt wr w.heap.size s ∧ Below w.heap.size w wr) (fun i _ => 256 - (intOf i).toNat)
    case atStart => exact ⟨_, hb, rfl, rfl, (box_start w s).1, (box_start w s).2⟩
    case round =>
      obtain ⟨k, hk, rfl, HF, hs, hbw⟩ := hrel
      by_cases hlt : k < 256
      · obtain ⟨c0, c1, c2, c3⟩ := hs.cells
        cases hbit : s.getLsbD k
        · have HB := Lib.hid hbit
          clear hbit
          go_wp2_with (go_at_call 12; refine (rhas_any s k hlt _).mono ?_; rw [HB.out]; rintro e w' ⟨rfl, hb1⟩)
          go_roundw
          case rel => exact ⟨k + 1, by omega, num_succ k, by rw [← HF.out]; exact (fst_next HB.out).symm, hs.grown hb1, hbw.trans (hb1.mono hbw.size)⟩
          case measure => simp [intOf]; omega
        · have HB := Lib.hid hbit
          clear hbit
          go_wp2_with (go_at_call 12; refine (rhas_any s k hlt _).mono ?_; rw [HB.out]; rintro e w' ⟨rfl, hb1⟩)
          go_ret2
          exact ⟨by rw [← HF.out, fst_at hlt HB.out, fstV_in hlt]; rfl, hbw.trans (hb1.mono hbw.size)⟩
      · go_wp2
        go_ret2
        exact ⟨by rw [← HF.out, fst_out (by omega), fstV_out (Nat.le_refl _)]; rfl, hbw⟩
/-- The bytes below k that a set hasn't. -/
theorem not_end (s : BitVec 256) : upTo (fun b => !s.getLsbD b) 256 = ~~~s := by
  apply bv_ext
  intro b hb
  rw [get_upTo _ _ _ (Nat.le_refl _), BitVec.getLsbD_not]
theorem not_start (w : World) (s : BitVec 256) :
    SetAt (((w.alloc (.cells #[.int .u64 (wd s 0), .int .u64 (wd s 1), .int .u64 (wd s 2), .int .u64 (wd s 3)] 24)).alloc (.cells #[.int .u64 0, .int .u64 0, .int .u64 0, .int .u64 0] 24)).alloc (.cells #[.int .u64 0, .int .u64 0, .int .u64 0, .int .u64 0] 24)) w.heap.size s ∧
    SetAt (((w.alloc (.cells #[.int .u64 (wd s 0), .int .u64 (wd s 1), .int .u64 (wd s 2), .int .u64 (wd s 3)] 24)).alloc (.cells #[.int .u64 0, .int .u64 0, .int .u64 0, .int .u64 0] 24)).alloc (.cells #[.int .u64 0, .int .u64 0, .int .u64 0, .int .u64 0] 24)) (w.heap.size + 1) 0 ∧
    SetAt (((w.alloc (.cells #[.int .u64 (wd s 0), .int .u64 (wd s 1), .int .u64 (wd s 2), .int .u64 (wd s 3)] 24)).alloc (.cells #[.int .u64 0, .int .u64 0, .int .u64 0, .int .u64 0] 24)).alloc (.cells #[.int .u64 0, .int .u64 0, .int .u64 0, .int .u64 0] 24)) (w.heap.size + 1 + 1) 0 ∧
    Below w.heap.size w (((w.alloc (.cells #[.int .u64 (wd s 0), .int .u64 (wd s 1), .int .u64 (wd s 2), .int .u64 (wd s 3)] 24)).alloc (.cells #[.int .u64 0, .int .u64 0, .int .u64 0, .int .u64 0] 24)).alloc (.cells #[.int .u64 0, .int .u64 0, .int .u64 0, .int .u64 0] 24)) := by
  obtain ⟨h1, h2, h3⟩ := @atStart_two (w.alloc (.cells #[.int .u64 (wd s 0), .int .u64 (wd s 1), .int .u64 (wd s 2), .int .u64 (wd s 3)] 24))
  refine ⟨(SetAt.new w s).grown h3, by simpa using h2, by simpa using h1, ((box_start w s).2).trans (h3.mono (by simp))⟩
set_option maxHeartbeats 1000000 in
theorem rnot_any (s : BitVec 256) (w : World) :
    Calls Tryd.prog 19 #[(.agg #[.int .u64 (wd (s) 0), .int .u64 (wd (s) 1), .int .u64 (wd (s) 2), .int .u64 (wd (s) 3)])] w fun e w' => e = .returned (.agg #[.int .u64 (wd (~~~s) 0), .int .u64 (wd (~~~s) 1), .int .u64 (wd (~~~s) 2), .int .u64 (wd (~~~s) 3)]) ∧ Below w.heap.size w w' := by
  go_enter Tryd.func19, Tryd.ntmps19
  go_wp2
  go_loopw [4] (fun i wr => ∃ k : Nat, k ≤ 256 ∧ i = .int .i64 k ∧ SetAt wr w.heap.size s ∧ SetAt wr (w.heap.size + 1) 0 ∧ SetAt wr (w.heap.size + 1 + 1) (upTo (fun b => !s.getLsbD b) k) ∧ Below w.heap.size w wr) (fun i _ => 256 - (intOf i).toNat)
  case atStart =>
    obtain ⟨h1, h2, h3, h4⟩ := not_start w s
    exact ⟨0, by omega, rfl, h1, h2, h3, h4⟩
  case round =>
    obtain ⟨k, hk, rfl, hs, hz, ha, hbw⟩ := hrel
    by_cases hlt : k < 256
    · obtain ⟨c0, c1, c2, c3⟩ := hs.cells
      cases hbit : s.getLsbD k
      · have HB := Lib.hid hbit
        have HU : Hid (upTo (fun b => !s.getLsbD b) (k + 1) = put (upTo (fun b => !s.getLsbD b) k) k) := by rw [Hid, upTo, hbit]; rfl
        clear hbit
        generalize upTo (fun b => !s.getLsbD b) k = u at *
        go_wp2_with (first | (go_at_call 12; refine (rhas_any s k hlt _).mono ?_; rw [HB.out]; rintro e w' ⟨rfl, hb1⟩; obtain ⟨d0, d1, d2, d3⟩ := (ha.grown hb1).cells) | (go_at_call 35; refine (rwith_any _ k hlt _).mono ?_; rintro e w'' ⟨rfl, hb2⟩; obtain ⟨d0, d1, d2, d3⟩ := ((ha.grown hb1).grown hb2).cells; obtain ⟨g0, g1, g2, g3⟩ := ((ha.grown hb1).grown hb2).free))
        go_roundw
        case rel =>
          refine ⟨k + 1, by omega, num_succ k, ((hs.grown hb1).grown hb2).other4 (by omega) _ _ _ _, ((hz.grown hb1).grown hb2).other4 (by omega) _ _ _ _, ?_, below_set4 ((hbw.trans (hb1.mono hbw.size)).trans (hb2.mono (hbw.trans (hb1.mono hbw.size)).size)) (by omega) _ _ _ _⟩
          rw [HU.out]
          exact ((ha.grown hb1).grown hb2).store _
        case measure => simp [intOf]; omega
      · have HB := Lib.hid hbit
        have HU : Hid (upTo (fun b => !s.getLsbD b) (k + 1) = upTo (fun b => !s.getLsbD b) k) := by rw [Hid, upTo, hbit]; rfl
        clear hbit
        go_wp2_with (go_at_call 12; refine (rhas_any s k hlt _).mono ?_; rw [HB.out]; rintro e w' ⟨rfl, hb1⟩)
        go_roundw
        case rel => exact ⟨k + 1, by omega, num_succ k, hs.grown hb1, hz.grown hb1, by rw [HU.out]; exact ha.grown hb1, hbw.trans (hb1.mono hbw.size)⟩
        case measure => simp [intOf]; omega
    · obtain rfl : k = 256 := by omega
      rw [not_end] at ha
      obtain ⟨c0, c1, c2, c3⟩ := ha.cells
      obtain ⟨d0, d1, d2, d3⟩ := hz.cells
      obtain ⟨g0, g1, g2, g3⟩ := hz.free
      go_wp2
      refine bodyPost_ret (v := (.agg #[.int .u64 (wd (~~~s) 0), .int .u64 (wd (~~~s) 1), .int .u64 (wd (~~~s) 2), .int .u64 (wd (~~~s) 3)])) (by simp [results, Tryd.results19, go_sem, *]) rfl ⟨rfl, ?_⟩
      exact below_set4 hbw (by omega) _ _ _ _
end Go.Proofs.YtocllbdfdmpopaaDoor
