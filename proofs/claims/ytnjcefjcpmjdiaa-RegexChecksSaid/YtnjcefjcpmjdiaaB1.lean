/- Contracts of byteset that regex calls; '==' between sets. -/
import Derived.Test.YtnjcefjcpmjdiaaD1
import Derived.ChangeKeysEq
set_option maxRecDepth 20000
namespace Go.Proofs.Ytnjcefjcpmjdiaa
open Go.RowKit

theorem ix0 (a b c d : Value) (w : World) : (Instr.index 24 (.agg #[a, b, c, d]) (.int .i64 0)).run Try.prog w = .ok a w := by kernel_rfl
theorem ix1 (a b c d : Value) (w : World) : (Instr.index 24 (.agg #[a, b, c, d]) (.int .i64 1)).run Try.prog w = .ok b w := by kernel_rfl
theorem ix2 (a b c d : Value) (w : World) : (Instr.index 24 (.agg #[a, b, c, d]) (.int .i64 2)).run Try.prog w = .ok c w := by kernel_rfl
theorem ix3 (a b c d : Value) (w : World) : (Instr.index 24 (.agg #[a, b, c, d]) (.int .i64 3)).run Try.prog w = .ok d w := by kernel_rfl
set_option maxHeartbeats 400000 in
theorem with_any (s : BitVec 256) (b : Nat) (hb : b < 256) (w : World) :
    Calls Try.prog 51 #[(.agg #[.int .u64 (wd (s) 0), .int .u64 (wd (s) 1), .int .u64 (wd (s) 2), .int .u64 (wd (s) 3)]), .int .u8 b] w fun e w' => e = .returned (.agg #[.int .u64 (wd (put s b) 0), .int .u64 (wd (put s b) 1), .int .u64 (wd (put s b) 2), .int .u64 (wd (put s b) 3)]) ∧ Below w.heap.size w w' := by
  have hp := wd_put s b hb
  have hq (i : Nat) (h : b / 64 ≠ i) := (wd_put_ne s b i hb h).symm
  have hj : b / 64 = 0 ∨ b / 64 = 1 ∨ b / 64 = 2 ∨ b / 64 = 3 := by omega
  rcases hj with h | h | h | h
  all_goals
    rw [h] at hp
    have q0 := hq 0; have q1 := hq 1; have q2 := hq 2; have q3 := hq 3
    clear hq
    rw [h] at q0 q1 q2 q3
    simp at q0 q1 q2 q3
    go_enter Try.func51, Try.ntmps51
    go_wp2
    refine bodyPost_ret (v := (.agg #[.int .u64 (wd (put s b) 0), .int .u64 (wd (put s b) 1), .int .u64 (wd (put s b) 2), .int .u64 (wd (put s b) 3)])) (by simp [results, Try.results51, go_sem]) rfl ⟨rfl, ?_⟩
    exact ((Below.refl _ _).alloc (Nat.le_refl _) _).alloc (by simp) _
set_option maxHeartbeats 1000000 in
theorem range_any (lo hi : Nat) (hlo : lo < 256) (hhi : hi < 256) (w : World) :
    Calls Try.prog 39 #[.int .u8 lo, .int .u8 hi] w fun e w' => e = .returned (.agg #[.int .u64 (wd (ofP (rangeP lo hi)) 0), .int .u64 (wd (ofP (rangeP lo hi)) 1), .int .u64 (wd (ofP (rangeP lo hi)) 2), .int .u64 (wd (ofP (rangeP lo hi)) 3)]) ∧ Below w.heap.size w w' := by
  go_enter Try.func39, Try.ntmps39
  go_wp2
  go_loopw [6] (fun i wr => ∃ k : Nat, lo ≤ k ∧ (k ≤ hi + 1 ∨ k = lo) ∧ i = .int .i64 k ∧ SetAt wr (w.heap.size + 1) (upTo (rangeP lo hi) k) ∧ SetAt wr w.heap.size 0 ∧ Below w.heap.size w wr) (fun i _ => 256 - (intOf i).toNat)
  case atStart =>
    obtain ⟨h1, h2, h3⟩ := @atStart_two w
    exact ⟨lo, Nat.le_refl _, .inr rfl, rfl, by rw [range_start lo hi lo (Nat.le_refl _)]; exact h1, h2, h3⟩
  case round =>
    obtain ⟨k, hk, hk2, rfl, hs, hz, hbw⟩ := hrel
    by_cases hlt : k ≤ hi
    · obtain ⟨c0, c1, c2, c3⟩ := hs.cells
      have hst := range_step lo hi k hk hlt
      rw [range_step lo hi k hk hlt] at hst
      go_wp2_with (go_at_call 51; refine (with_any _ k (by omega) _).mono ?_; rintro e w' ⟨rfl, hb1⟩; obtain ⟨d0, d1, d2, d3⟩ := (hs.grown hb1).cells; obtain ⟨g0, g1, g2, g3⟩ := (hs.grown hb1).free)
      go_roundw
      case rel =>
        refine ⟨k + 1, by omega, by omega, num_succ k, ?_, (hz.grown hb1).other4 (by omega) _ _ _ _, below_set4 (hbw.trans (hb1.mono hbw.size)) (by omega) _ _ _ _⟩
        rw [range_step lo hi k hk hlt]
        exact (hs.grown hb1).store _
      case measure => simp [intOf]; omega
    · obtain ⟨c0, c1, c2, c3⟩ := hs.cells
      obtain ⟨d0, d1, d2, d3⟩ := hz.cells
      obtain ⟨g0, g1, g2, g3⟩ := hz.free
      have he := range_end lo hi k (by omega) (by omega)
      rw [he] at c0 c1 c2 c3
      clear he
      go_wp2
      refine bodyPost_ret (v := (.agg #[.int .u64 (wd (ofP (rangeP lo hi)) 0), .int .u64 (wd (ofP (rangeP lo hi)) 1), .int .u64 (wd (ofP (rangeP lo hi)) 2), .int .u64 (wd (ofP (rangeP lo hi)) 3)])) (by simp [results, Try.results39, go_sem, *]) rfl ⟨rfl, ?_⟩
      exact below_set4 hbw (Nat.le_refl _) _ _ _ _
set_option maxHeartbeats 1000000 in
theorem union_any (v : Value) (l : List (BitVec 256)) (w : World) (hv : Sl w v l) :
    Calls Try.prog 56 #[v] w fun e w' => e = .returned (.agg #[.int .u64 (wd (unionL l) 0), .int .u64 (wd (unionL l) 1), .int .u64 (wd (unionL l) 2), .int .u64 (wd (unionL l) 3)]) ∧ Below w.heap.size w w' := by
  obtain ⟨hlen, hv⟩ := hv
  unfold maxLen at hlen
  rcases hv with ⟨rfl, a, cap, rfl⟩ | ⟨b, off, cap, rfl, hl⟩
  · go_enter Try.func56, Try.ntmps56
    go_wp2
    refine wp_loop_rounds 1 ?_
    rw [rounds_succ]; go_wp2
    refine bodyPost_ret (v := (.agg #[.int .u64 (wd (unionL []) 0), .int .u64 (wd (unionL []) 1), .int .u64 (wd (unionL []) 2), .int .u64 (wd (unionL []) 3)])) (by simp [results, Try.results56, go_sem, union_nil_wd]) rfl ⟨rfl, ?_⟩
    exact ((Below.refl _ _).alloc (Nat.le_refl _) _).alloc (by simp) _
  · go_enter Try.func56, Try.ntmps56
    go_wp2
    go_loopw [10] (fun i wr => ∃ k : Nat, k ≤ l.length ∧ i = .int .i64 k ∧ SetAt wr w.heap.size 0 ∧ SetAt wr (w.heap.size + 1) (unionL (l.take k)) ∧ Below w.heap.size w wr) (fun i _ => l.length - (intOf i).toNat)
    case atStart =>
      obtain ⟨h1, h2, h3⟩ := @atStart_two w
      exact ⟨0, by omega, rfl, h2, h1, h3⟩
    case round =>
      obtain ⟨k, hk, rfl, hz, hs, hbw⟩ := hrel
      by_cases hlt : k < l.length
      · obtain ⟨e0, e1, e2, e3⟩ := (hl.lower hbw hl.1).cells k hlt
        obtain ⟨c0, c1, c2, c3⟩ := hs.cells
        obtain ⟨f0, f1, f2, f3⟩ := hs.free
        have hsz := hs.lt
        generalize hu : unionL (l.take k) = u at *
        have HU := Lib.hid hu; clear hu
        generalize hx : l[k] = x at *
        have HX := Lib.hid hx; clear hx
        have i0 := ix0 (.int .u64 (wd x 0)) (.int .u64 (wd x 1)) (.int .u64 (wd x 2)) (.int .u64 (wd x 3))
        have i1 := ix1 (.int .u64 (wd x 0)) (.int .u64 (wd x 1)) (.int .u64 (wd x 2)) (.int .u64 (wd x 3))
        have i2 := ix2 (.int .u64 (wd x 0)) (.int .u64 (wd x 1)) (.int .u64 (wd x 2)) (.int .u64 (wd x 3))
        have i3 := ix3 (.int .u64 (wd x 0)) (.int .u64 (wd x 1)) (.int .u64 (wd x 2)) (.int .u64 (wd x 3))
        have o0 := wd_or u x 0
        have o1 := wd_or u x 1
        have o2 := wd_or u x 2
        have o3 := wd_or u x 3
        go_wp2
        refine wp_loop_rounds 5 ?_
        rw [rounds_succ]; go_wp2
        rw [rounds_succ]; go_wp2
        rw [rounds_succ]; go_wp2
        rw [rounds_succ]; go_wp2
        rw [rounds_succ]; go_wp2
        go_roundw
        case rel =>
          refine ⟨k + 1, by omega, num_succ k, (hz.other4 (by omega) _ _ _ _).alloc _, ?_, (below_set4 hbw (by omega) _ _ _ _).alloc (by simp [World.setCell]; omega) _⟩
          rw [List.take_succ_eq_append_getElem hlt, HX.out, union_snoc, HU.out]
          exact (hs.store _).alloc _
        case measure => simp [intOf]; omega
      · obtain rfl : k = l.length := by omega
        rw [List.take_length] at hs
        obtain ⟨c0, c1, c2, c3⟩ := hs.cells
        obtain ⟨d0, d1, d2, d3⟩ := hz.cells
        obtain ⟨g0, g1, g2, g3⟩ := hz.free
        go_wp2
        refine bodyPost_ret (v := (.agg #[.int .u64 (wd (unionL l) 0), .int .u64 (wd (unionL l) 1), .int .u64 (wd (unionL l) 2), .int .u64 (wd (unionL l) 3)])) (by simp [results, Try.results56, go_sem, *]) rfl ⟨rfl, ?_⟩
        exact below_set4 hbw (by omega) _ _ _ _
theorem union_two (x y : BitVec 256) : unionL [x, y] = x ||| y := by simp [unionL]
theorem sl_two (w : World) (x y : BitVec 256) : Sl (w.alloc (.cells #[.int .u64 (wd x 0), .int .u64 (wd x 1), .int .u64 (wd x 2), .int .u64 (wd x 3), .int .u64 (wd y 0), .int .u64 (wd y 1), .int .u64 (wd y 2), .int .u64 (wd y 3)] 24)) (.slice (some ⟨w.heap.size, 0, none⟩) 2 2) [x, y] := by
  refine ⟨by simp [maxLen], .inr ⟨_, 0, 2, rfl, by simp, ?_⟩⟩
  intro i hi j hj
  match i, hi with
  | 0, _ => match j, hj with
    | 0, _ => simp
    | 1, _ => simp
    | 2, _ => simp
    | 3, _ => simp
  | 1, _ => match j, hj with
    | 0, _ => simp
    | 1, _ => simp
    | 2, _ => simp
    | 3, _ => simp
theorem union_pair (x y : BitVec 256) (w : World) (n : Nat) (hn : w.heap.size = n) :
    Calls Try.prog 56 #[.slice (some ⟨n, 0, none⟩) 2 2] (w.alloc (.cells #[.int .u64 (wd x 0), .int .u64 (wd x 1), .int .u64 (wd x 2), .int .u64 (wd x 3), .int .u64 (wd y 0), .int .u64 (wd y 1), .int .u64 (wd y 2), .int .u64 (wd y 3)] 24)) fun e w' => e = .returned (.agg #[.int .u64 (wd (x ||| y) 0), .int .u64 (wd (x ||| y) 1), .int .u64 (wd (x ||| y) 2), .int .u64 (wd (x ||| y) 3)]) ∧ Below w.heap.size w w' := by
  subst hn
  refine (union_any _ _ _ (sl_two w x y)).mono ?_
  rintro e w' ⟨rfl, hb⟩
  rw [union_two]
  exact ⟨rfl, ((Below.refl _ _).alloc (Nat.le_refl _) _).trans (hb.mono (by simp))⟩
theorem runion_pair (x y : BitVec 256) (w : World) (n : Nat) (hn : w.heap.size = n) :
    Calls Try.prog 33 #[.slice (some ⟨n, 0, none⟩) 2 2] (w.alloc (.cells #[.int .u64 (wd x 0), .int .u64 (wd x 1), .int .u64 (wd x 2), .int .u64 (wd x 3), .int .u64 (wd y 0), .int .u64 (wd y 1), .int .u64 (wd y 2), .int .u64 (wd y 3)] 24)) fun e w' => e = .returned (.agg #[.int .u64 (wd (x ||| y) 0), .int .u64 (wd (x ||| y) 1), .int .u64 (wd (x ||| y) 2), .int .u64 (wd (x ||| y) 3)]) ∧ Below w.heap.size w w' := by
  subst hn
  refine (runion_any _ _ _ (sl_two w x y)).mono ?_
  rintro e w' ⟨rfl, hb⟩
  rw [union_two]
  exact ⟨rfl, ((Below.refl _ _).alloc (Nat.le_refl _) _).trans (hb.mono (by simp))⟩
theorem cellsU64 : Try.prog.cellsOf 22 = 1 := by kernel_rfl
theorem infoU64 : ∃ i, Try.prog.info? 22 = some i := by
  have : (Try.prog.info? 22).isSome = true := by kernel_rfl
  exact Option.isSome_iff_exists.1 this
theorem part4_0 (a b c d : Int) (w : World) : (part 22 #[.int .u64 a, .int .u64 b, .int .u64 c, .int .u64 d] (0 * 1)).run Try.prog w = .ok (.int .u64 a) w := by kernel_rfl
theorem part4_1 (a b c d : Int) (w : World) : (part 22 #[.int .u64 a, .int .u64 b, .int .u64 c, .int .u64 d] (1 * 1)).run Try.prog w = .ok (.int .u64 b) w := by kernel_rfl
theorem part4_2 (a b c d : Int) (w : World) : (part 22 #[.int .u64 a, .int .u64 b, .int .u64 c, .int .u64 d] (2 * 1)).run Try.prog w = .ok (.int .u64 c) w := by kernel_rfl
theorem part4_3 (a b c d : Int) (w : World) : (part 22 #[.int .u64 a, .int .u64 b, .int .u64 c, .int .u64 d] (3 * 1)).run Try.prog w = .ok (.int .u64 d) w := by kernel_rfl
theorem eq_four (a b c d a' b' c' d' : Int) (w : World) : (Op.equalIn 10000 24 (.agg #[.int .u64 a, .int .u64 b, .int .u64 c, .int .u64 d]) (.agg #[.int .u64 a', .int .u64 b', .int .u64 c', .int .u64 d'])).run Try.prog w = .ok (a == a' && (b == b' && (c == c' && d == d'))) w := by
  obtain ⟨i, hi⟩ := infoU64
  rw [show (10000 : Nat) = 9999 + 1 from rfl, run_equalIn_array w 9999 _ _ Try.underlying24 hi, cellsU64, show List.range 4 = [0, 1, 2, 3] from rfl]
  simp only [Op.eqItems, Sem.run_bind, part4_0, Result.andThen_ok, run_equalIn_int w 9998 _ _ _ _ _ Try.underlying22]
  cases a == a'
  · simp
  · simp only [Bool.not_true, Bool.false_eq_true, if_false, Sem.run_bind, part4_1, Result.andThen_ok, run_equalIn_int w 9998 _ _ _ _ _ Try.underlying22]
    cases b == b'
    · simp
    · simp only [Bool.not_true, Bool.false_eq_true, if_false, Sem.run_bind, part4_2, Result.andThen_ok, run_equalIn_int w 9998 _ _ _ _ _ Try.underlying22]
      cases c == c'
      · simp
      · simp only [Bool.not_true, Bool.false_eq_true, if_false, Sem.run_bind, part4_3, Result.andThen_ok, run_equalIn_int w 9998 _ _ _ _ _ Try.underlying22]
        cases d == d' <;> simp
theorem eq_words (s t : BitVec 256) : ((wd s 0 : Int) == (wd t 0 : Int) && ((wd s 1 : Int) == (wd t 1 : Int) && ((wd s 2 : Int) == (wd t 2 : Int) && (wd s 3 : Int) == (wd t 3 : Int)))) = decide (s = t) := by
  rw [Bool.eq_iff_iff]
  simp only [Bool.and_eq_true, beq_iff_eq, decide_eq_true_eq]
  constructor
  · rintro ⟨h0, h1, h2, h3⟩
    apply ext_wd
    intro i hi
    match i, hi with
    | 0, _ => omega
    | 1, _ => omega
    | 2, _ => omega
    | 3, _ => omega
  · rintro rfl
    simp
theorem eq_set (s t : BitVec 256) (w : World) : (Op.equalIn 10000 24 (.agg #[.int .u64 (wd (s) 0), .int .u64 (wd (s) 1), .int .u64 (wd (s) 2), .int .u64 (wd (s) 3)]) (.agg #[.int .u64 (wd (t) 0), .int .u64 (wd (t) 1), .int .u64 (wd (t) 2), .int .u64 (wd (t) 3)])).run Try.prog w = .ok (decide (s = t)) w := by
  rw [eq_four, eq_words]
theorem eq_set_same (s : BitVec 256) (w : World) : (Op.equalIn 10000 24 (.agg #[.int .u64 (wd (s) 0), .int .u64 (wd (s) 1), .int .u64 (wd (s) 2), .int .u64 (wd (s) 3)]) (.agg #[.int .u64 (wd (s) 0), .int .u64 (wd (s) 1), .int .u64 (wd (s) 2), .int .u64 (wd (s) 3)])).run Try.prog w = .ok true w := by
  rw [eq_set]; simp
end Go.Proofs.Ytnjcefjcpmjdiaa
