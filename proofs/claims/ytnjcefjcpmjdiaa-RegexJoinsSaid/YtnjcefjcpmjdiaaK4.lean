/- The walk of RegexJoins. -/
import Derived.Test.YtnjcefjcpmjdiaaK0
import Derived.Test.YtnjcefjcpmjdiaaF4
import Derived.Test.YtnjcefjcpmjdiaaJ9
import Derived.Deep.CutRange
import Derived.Test.YtnjcefjcpmjdiaaF3
import Derived.Test.YtnjcefjcpmjdiaaF2
import Derived.Test.YtnjcefjcpmjdiaaD9
import Derived.Deep.RegionHeld3
set_option maxRecDepth 100000
namespace Go.Proofs.Ytnjcefjcpmjdiaa
open Go.RowKit

theorem cat_pd (p q : Pat) (ka kb : Value) (w : World) (n : Nat) (hn : w.heap.size = n) (hp : p.size < 9999) (hq : q.size < 9999) (hA : Kids ((w.alloc (.cells #[.int .i64 p.op, .int .u64 (wd p.set 0), .int .u64 (wd p.set 1), .int .u64 (wd p.set 2), .int .u64 (wd p.set 3), .int .i64 p.lo, .int .i64 p.hi, ka, .int .i64 q.op, .int .u64 (wd q.set 0), .int .u64 (wd q.set 1), .int .u64 (wd q.set 2), .int .u64 (wd q.set 3), .int .i64 q.lo, .int .i64 q.hi, kb] 28)).drew) p.kids ka) (hB : Kids ((w.alloc (.cells #[.int .i64 p.op, .int .u64 (wd p.set 0), .int .u64 (wd p.set 1), .int .u64 (wd p.set 2), .int .u64 (wd p.set 3), .int .i64 p.lo, .int .i64 p.hi, ka, .int .i64 q.op, .int .u64 (wd q.set 0), .int .u64 (wd q.set 1), .int .u64 (wd q.set 2), .int .u64 (wd q.set 3), .int .i64 q.lo, .int .i64 q.hi, kb] 28)).drew) q.kids kb) :
    Calls Try.prog 16 #[.slice (some ⟨n, 0, none⟩) 2 2] ((w.alloc (.cells #[.int .i64 p.op, .int .u64 (wd p.set 0), .int .u64 (wd p.set 1), .int .u64 (wd p.set 2), .int .u64 (wd p.set 3), .int .i64 p.lo, .int .i64 p.hi, ka, .int .i64 q.op, .int .u64 (wd q.set 0), .int .u64 (wd q.set 1), .int .u64 (wd q.set 2), .int .u64 (wd q.set 3), .int .i64 q.lo, .int .i64 q.hi, kb] 28)).drew) fun e w' => ∃ a c, e = .returned (.agg #[.int .i64 (Pat.mk 1 (0#256) 0 0 [p, q]).op, .int .u64 (wd (Pat.mk 1 (0#256) 0 0 [p, q]).set 0), .int .u64 (wd (Pat.mk 1 (0#256) 0 0 [p, q]).set 1), .int .u64 (wd (Pat.mk 1 (0#256) 0 0 [p, q]).set 2), .int .u64 (wd (Pat.mk 1 (0#256) 0 0 [p, q]).set 3), .int .i64 (Pat.mk 1 (0#256) 0 0 [p, q]).lo, .int .i64 (Pat.mk 1 (0#256) 0 0 [p, q]).hi, .slice a 2 c]) ∧ Kids w' [p, q] (.slice a 2 c) ∧ Below ((w.alloc (.cells #[.int .i64 p.op, .int .u64 (wd p.set 0), .int .u64 (wd p.set 1), .int .u64 (wd p.set 2), .int .u64 (wd p.set 3), .int .i64 p.lo, .int .i64 p.hi, ka, .int .i64 q.op, .int .u64 (wd q.set 0), .int .u64 (wd q.set 1), .int .u64 (wd q.set 2), .int .u64 (wd q.set 3), .int .i64 q.lo, .int .i64 q.hi, kb] 28)).drew).heap.size ((w.alloc (.cells #[.int .i64 p.op, .int .u64 (wd p.set 0), .int .u64 (wd p.set 1), .int .u64 (wd p.set 2), .int .u64 (wd p.set 3), .int .i64 p.lo, .int .i64 p.hi, ka, .int .i64 q.op, .int .u64 (wd q.set 0), .int .u64 (wd q.set 1), .int .u64 (wd q.set 2), .int .u64 (wd q.set 3), .int .i64 q.lo, .int .i64 q.hi, kb] 28)).drew) w' := cat_p p q ka kb w.drew n hn hp hq hA hB
theorem nul_cat (p q : Pat) : (Pat.mk 1 (0#256) 0 0 [p, q]).nul = (p.nul && q.nul) := by rw [nul_eq]; simp [Pat.op, Pat.kids]
theorem nul_and (p q : Pat) : (Pat.mk 4 (0#256) 0 0 [p, q]).nul = (p.nul && q.nul) := by rw [nul_eq]; simp [Pat.op, Pat.kids]
theorem nul_alt (p q : Pat) : (Pat.mk 2 (0#256) 0 0 [p, q]).nul = (p.nul || q.nul) := by rw [nul_eq]; simp [Pat.op, Pat.kids]
theorem nul_rep1 (p : Pat) : (Pat.mk 3 (0#256) 1 3 [p]).nul = p.nul := by rw [nul_eq]; simp [Pat.op, Pat.kids, Pat.lo]
theorem nul_rep0 (p : Pat) : (Pat.mk 3 (0#256) 0 3 [p]).nul = true := by rw [nul_eq]; simp [Pat.op, Pat.kids, Pat.lo]
theorem size_two (op : Int) (p q : Pat) : (((Pat.mk op (0#256) 0 0 [p, q]).size : Nat) : Int) = 1 + (p.size : Int) + (q.size : Int) := by simp only [Pat.size, Pat.sizes]; omega
theorem size_not (p : Pat) : (((Pat.mk 5 (0#256) 0 0 [p]).size : Nat) : Int) = 1 + (p.size : Int) := by simp only [Pat.size, Pat.sizes]; omega
theorem bytes_and (p q : Pat) : (Pat.mk 4 (0#256) 0 0 [p, q]).bytes = (p.bytes ||| q.bytes) := by rw [bytes_eq]; simp [Pat.op, Pat.kids, bytesL]
set_option maxHeartbeats 16000000 in
theorem joins_any (a b : ByteArray) (w : World) : Calls Try.prog 7 #[.string a, .string b] w fun e w' => e = .returned (.bool true) ∧ Below w.heap.size w w' := by
  by_cases ha : 40 < a.size
  · go_enter Try.func7, Try.ntmps7
    go_wp2_with (go_at_call 8; (with_reducible refine (awake_any _).mono ?_); rintro e w1 ⟨rfl, hb1⟩)
    go_ret
    exact ⟨rfl, hb1⟩
  by_cases hb : 40 < b.size
  · go_enter Try.func7, Try.ntmps7
    go_wp2_with (go_at_call 8; (with_reducible refine (awake_any _).mono ?_); rintro e w1 ⟨rfl, hb1⟩)
    go_ret
    exact ⟨rfl, hb1⟩
  · have hbl : b.size ≤ 60 := by omega
    have hal : a.size ≤ 60 := by omega
    go_enter Try.func7, Try.ntmps7
    go_wp2_with (first
      | (go_at_call 8; (with_reducible refine (awake_any _).mono ?_); rintro e w1 ⟨rfl, hb1⟩)
      | (go_at_call 9; first | ((with_reducible refine (make_p a _ hal).mono ?_); rintro e w2 ⟨p, a1, c1, rfl, hk2, hsP, hokP, hb2⟩) | ((with_reducible refine (make_p b _ hbl).mono ?_); rintro e w4 ⟨q, a2, c2, rfl, hk4, hsQ, hokQ, hb4⟩; have hxx : Box w4 w2.heap.size #[.int .i64 p.op, .int .u64 (wd p.set 0), .int .u64 (wd p.set 1), .int .u64 (wd p.set 2), .int .u64 (wd p.set 3), .int .i64 p.lo, .int .i64 p.hi, .slice a1 p.kids.length c1] := (Box.new w2 _ rfl).below hb4; obtain ⟨o0, o1, o2, o3, o4, o5, o6, o7⟩ := hxx.cells; have hox := hxx.lt; have hkX4 := (hk2.below (below_one _ _)).below hb4; have hsp9 : p.size < 9999 := (by omega); have hsq9 : q.size < 9999 := (by omega)))
      | (go_at_call 23; first | ((with_reducible refine (null_p p _ _ hsp9 (hkX4.below (below_one _ _))).mono ?_); rintro e w6 ⟨rfl, hb6⟩; have hyy : Box w6 w4.heap.size #[.int .i64 q.op, .int .u64 (wd q.set 0), .int .u64 (wd q.set 1), .int .u64 (wd q.set 2), .int .u64 (wd q.set 3), .int .i64 q.lo, .int .i64 q.hi, .slice a2 q.kids.length c2] := (Box.new w4 _ rfl).below hb6; obtain ⟨u0, u1, u2, u3, u4, u5, u6, u7⟩ := hyy.cells) | ((with_reducible refine (null_p q _ _ hsq9 ((hk4.below (below_one _ _)).below hb6)).mono ?_); rintro e w8 ⟨rfl, hb8⟩)))
    have hx := ((hxx.alloc (.cells #[.int .i64 q.op, .int .u64 (wd q.set 0), .int .u64 (wd q.set 1), .int .u64 (wd q.set 2), .int .u64 (wd q.set 3), .int .i64 q.lo, .int .i64 q.hi, .slice a2 q.kids.length c2] 28)).below hb6).below hb8
    have hy := hyy.below hb8
    have hkX := ((hkX4.below (below_one _ (.cells #[.int .i64 q.op, .int .u64 (wd q.set 0), .int .u64 (wd q.set 1), .int .u64 (wd q.set 2), .int .u64 (wd q.set 3), .int .i64 q.lo, .int .i64 q.hi, .slice a2 q.kids.length c2] 28))).below hb6).below hb8
    have hkY := ((hk4.below (below_one _ (.cells #[.int .i64 q.op, .int .u64 (wd q.set 0), .int .u64 (wd q.set 1), .int .u64 (wd q.set 2), .int .u64 (wd q.set 3), .int .i64 q.lo, .int .i64 q.hi, .slice a2 q.kids.length c2] 28))).below hb6).below hb8
    have hb08 : Below w.heap.size w w8 := by
      have h1 := below_step (below_step hb1 hb2) (below_one w2 (.cells #[.int .i64 p.op, .int .u64 (wd p.set 0), .int .u64 (wd p.set 1), .int .u64 (wd p.set 2), .int .u64 (wd p.set 3), .int .i64 p.lo, .int .i64 p.hi, .slice a1 p.kids.length c1] 28))
      have h2 := below_step (below_step h1 hb4) (below_one w4 (.cells #[.int .i64 q.op, .int .u64 (wd q.set 0), .int .u64 (wd q.set 1), .int .u64 (wd q.set 2), .int .u64 (wd q.set 3), .int .i64 q.lo, .int .i64 q.hi, .slice a2 q.kids.length c2] 28))
      exact below_step (below_step h2 hb6) hb8
    clear o0 o1 o2 o3 o4 o5 o6 o7 u0 u1 u2 u3 u4 u5 u6 u7 hox hxx hyy hkX4 hk2 hk4 hb1 hb2 hb4 hb6 hb8
    generalize w2.heap.size = b1 at *
    generalize w4.heap.size = b2 at *
    have hsp : p.size < 9998 := by omega
    have hs1 : Pat.sizes [p] < 9998 := by simp only [Pat.sizes]; omega
    have hs2 : Pat.sizes [p, q] < 9998 := by simp only [Pat.sizes]; omega
    have hlx := hx.lt
    have hly := hy.lt
    have hw1 : IntKind.i64.wrap (1 + (p.size : Int)) = 1 + (p.size : Int) := by rw [IntKind.wrap_i64]; omega
    have hw2 : IntKind.i64.wrap (1 + (p.size : Int) + (q.size : Int)) = 1 + (p.size : Int) + (q.size : Int) := by rw [IntKind.wrap_i64]; omega
    go_cut [10] from 12 (fun s10 wx => s10 = .int .i64 (1 + (p.size : Int) + (q.size : Int)) ∧ Below w8.heap.size w8 wx)
    case first =>
      obtain ⟨p0, p1, p2, p3, p4, p5, p6, p7⟩ := hx.cells
      obtain ⟨q0, q1, q2, q3, q4, q5, q6, q7⟩ := hy.cells
      go_region_held3 (fun W => W.cell? ⟨b1, 0, none⟩ = some (.int .i64 p.op) ∧ W.cell? ⟨b1, 1, none⟩ = some (.int .u64 (wd p.set 0)) ∧ W.cell? ⟨b1, 2, none⟩ = some (.int .u64 (wd p.set 1)) ∧ W.cell? ⟨b1, 3, none⟩ = some (.int .u64 (wd p.set 2)) ∧ W.cell? ⟨b1, 4, none⟩ = some (.int .u64 (wd p.set 3)) ∧ W.cell? ⟨b1, 5, none⟩ = some (.int .i64 p.lo) ∧ W.cell? ⟨b1, 6, none⟩ = some (.int .i64 p.hi) ∧ W.cell? ⟨b1, 7, none⟩ = some (.slice a1 p.kids.length c1) ∧ W.cell? ⟨b2, 0, none⟩ = some (.int .i64 q.op) ∧ W.cell? ⟨b2, 1, none⟩ = some (.int .u64 (wd q.set 0)) ∧ W.cell? ⟨b2, 2, none⟩ = some (.int .u64 (wd q.set 1)) ∧ W.cell? ⟨b2, 3, none⟩ = some (.int .u64 (wd q.set 2)) ∧ W.cell? ⟨b2, 4, none⟩ = some (.int .u64 (wd q.set 3)) ∧ W.cell? ⟨b2, 5, none⟩ = some (.int .i64 q.lo) ∧ W.cell? ⟨b2, 6, none⟩ = some (.int .i64 q.hi) ∧ W.cell? ⟨b2, 7, none⟩ = some (.slice a2 q.kids.length c2) ∧ Below w8.heap.size w8 W)
        (first | (with_reducible exact s16_keep hlx hly (by assumption) (by assumption)) | (with_reducible exact s16_keep hlx hly (by assumption) (below_one _ _)) | (with_reducible exact s16_start hx hy (Below.refl _ _).drew))
        (first
          | (go_at_call 25; first | ((with_reducible refine (size_p p _ _ hsp9 (hkX.below (s16_below (by assumption)))).mono ?_); rintro e w6 ⟨rfl, hb6⟩) | ((with_reducible refine (size_p q _ _ hsq9 (hkY.below (s16_below (by assumption)))).mono ?_); rintro e w6 ⟨rfl, hb6⟩)))
      all_goals
        have hfin := s16_below (by assumption)
        go_wp2_with fail
        go_meet
        exact ⟨rfl, hfin⟩
    case rest =>
      obtain ⟨rfl, hb89⟩ := hcut
      replace hx := hx.below hb89
      replace hy := hy.below hb89
      replace hkX := hkX.below hb89
      replace hkY := hkY.below hb89
      have hb09 := below_step hb08 hb89
      clear hb89 hb08 hlx hly
      obtain ⟨w9, hw9⟩ : ∃ x, x = wc := ⟨_, rfl⟩
      subst hw9
      go_wp2_with fail
      go_cut [11] from 12 (fun s11 wx => ∃ b3 : Nat, s11 = .pointer (some ⟨b3, 0, none⟩) ∧ SetAt wx b3 (p.bytes ||| q.bytes) ∧ Below w9.heap.size w9 wx)
      case first =>
        refine Code.wp_mono then_false (regJ_any _ w9 b1 b2 p q a1 a2 c1 c2 hsp9 hsq9 hx hy hkX hkY _ _ _ _ _ _ _ _ _ _ _ _ _ _ _ _ _ _ _ _ _ _ _ _ _ _ _ _ _ _ _ _ _ _ _ _ _ _ _ _ _ _ _ _ _ _ _ _ _ _ _ _ _ _ _ _ _ _ _ _ _ _ _ _ _ _ _ _ _ _ _ _ _ _ _ _ _ _ _ _ _ _ _ _ _ _ _ _ _ _ _ _ _ _ _ _ _ _ _ _ _ _ _ _ _ _ _ _ _ _ _ _ _ _ _ _ _ _ _ _ _ _ (Lib.hid ?_))
        intro v37 v38 v39 v40 v41 v42 b3 wx h1 h2
        have H1 := Lib.hid h1
        have H2 := Lib.hid h2
        clear h1 h2
        dsimp only
        go_wp2_with fail
        go_meet
        exact ⟨_, rfl, H1.out, H2.out⟩
      case rest =>
        obtain ⟨b3, rfl, hz, hb910⟩ := hcut
        replace hx := hx.below hb910
        replace hy := hy.below hb910
        replace hkX := hkX.below hb910
        replace hkY := hkY.below hb910
        have hb010 := below_step hb09 hb910
        clear hb910 hb09
        obtain ⟨w10, hw10⟩ : ∃ x, x = wc := ⟨_, rfl⟩
        subst hw10
        have hlx := hx.lt
        have hly := hy.lt
        go_upto_region 12 with fail
        obtain ⟨vp, hvp⟩ : ∃ v, p.nul = v := ⟨_, rfl⟩
        obtain ⟨vq, hvq⟩ : ∃ v, q.nul = v := ⟨_, rfl⟩
        go_cut [8, 9, 89] from 12 (fun _ _ s89 wx => s89 = .bool false ∧ Below w10.heap.size w10 wx)
        case first =>
          obtain ⟨p0, p1, p2, p3, p4, p5, p6, p7⟩ := hx.cells
          obtain ⟨q0, q1, q2, q3, q4, q5, q6, q7⟩ := hy.cells
          have hB := Below.refl w10.heap.size w10
          have HC := Lib.hid (nul_cat p q)
          have HA := Lib.hid (nul_and p q)
          have HO := Lib.hid (nul_alt p q)
          have H1 := Lib.hid (nul_rep1 p)
          have H0 := Lib.hid (nul_rep0 p)
          rw [hvp, hvq] at HC HA HO
          rw [hvp] at H1
          rw [hvp, hvq]
          have HP := Lib.hid hvp
          have HQ := Lib.hid hvq
          clear hvp hvq
          cases vp <;> cases vq
          all_goals
            go_wp2_with (first
              | (go_at_call 16; (with_reducible refine (cat_p p q _ _ _ _ rfl hsp9 hsq9 (hkX.below (below_step hB (below_one _ _))) (hkY.below (below_step hB (below_one _ _)))).mono ?_); rintro e w6 ⟨a6, c6, rfl, hkC, hb6⟩; have hBn : Below w10.heap.size w10 w6 := (by first | with_reducible exact below_step hB hb6 | with_reducible exact below_step (below_step hB (below_one _ _)) hb6); replace hB := hBn; clear hBn; have hl1 : b1 < w6.heap.size := Nat.lt_of_lt_of_le hlx hB.size; have hl2 : b2 < w6.heap.size := Nat.lt_of_lt_of_le hly hB.size; clear p0 p1 p2 p3 p4 p5 p6 p7 q0 q1 q2 q3 q4 q5 q6 q7; obtain ⟨p0, p1, p2, p3, p4, p5, p6, p7⟩ := (hx.below hB).cells; obtain ⟨q0, q1, q2, q3, q4, q5, q6, q7⟩ := (hy.below hB).cells)
              | (go_at_call 18; (with_reducible refine (alt_p p q _ _ _ _ rfl hsp9 hsq9 (hkX.below (below_step hB (below_one _ _))) (hkY.below (below_step hB (below_one _ _)))).mono ?_); rintro e w6 ⟨a6, c6, rfl, hkC, hb6⟩; have hBn : Below w10.heap.size w10 w6 := (by first | with_reducible exact below_step hB hb6 | with_reducible exact below_step (below_step hB (below_one _ _)) hb6); replace hB := hBn; clear hBn; have hl1 : b1 < w6.heap.size := Nat.lt_of_lt_of_le hlx hB.size; have hl2 : b2 < w6.heap.size := Nat.lt_of_lt_of_le hly hB.size; clear p0 p1 p2 p3 p4 p5 p6 p7 q0 q1 q2 q3 q4 q5 q6 q7; obtain ⟨p0, p1, p2, p3, p4, p5, p6, p7⟩ := (hx.below hB).cells; obtain ⟨q0, q1, q2, q3, q4, q5, q6, q7⟩ := (hy.below hB).cells)
              | (go_at_call 19; (with_reducible refine (and_p p q _ _ _ _ rfl hsp9 hsq9 (hkX.below (below_step hB (below_one _ _))) (hkY.below (below_step hB (below_one _ _)))).mono ?_); rintro e w6 ⟨a6, c6, rfl, hkC, hb6⟩; have hBn : Below w10.heap.size w10 w6 := (by first | with_reducible exact below_step hB hb6 | with_reducible exact below_step (below_step hB (below_one _ _)) hb6); replace hB := hBn; clear hBn; have hl1 : b1 < w6.heap.size := Nat.lt_of_lt_of_le hlx hB.size; have hl2 : b2 < w6.heap.size := Nat.lt_of_lt_of_le hly hB.size; clear p0 p1 p2 p3 p4 p5 p6 p7 q0 q1 q2 q3 q4 q5 q6 q7; obtain ⟨p0, p1, p2, p3, p4, p5, p6, p7⟩ := (hx.below hB).cells; obtain ⟨q0, q1, q2, q3, q4, q5, q6, q7⟩ := (hy.below hB).cells)
              | (go_at_call 21; (with_reducible refine (rep_p p _ _ _ _ hsp (hkX.below hB)).mono ?_); rintro e w6 ⟨a6, c6, rfl, hkC, hb6⟩; have hBn : Below w10.heap.size w10 w6 := (by first | with_reducible exact below_step hB hb6 | with_reducible exact below_step (below_step hB (below_one _ _)) hb6); replace hB := hBn; clear hBn; have hl1 : b1 < w6.heap.size := Nat.lt_of_lt_of_le hlx hB.size; have hl2 : b2 < w6.heap.size := Nat.lt_of_lt_of_le hly hB.size; clear p0 p1 p2 p3 p4 p5 p6 p7 q0 q1 q2 q3 q4 q5 q6 q7; obtain ⟨p0, p1, p2, p3, p4, p5, p6, p7⟩ := (hx.below hB).cells; obtain ⟨q0, q1, q2, q3, q4, q5, q6, q7⟩ := (hy.below hB).cells)
              | (go_at_call 23; first
                | ((with_reducible refine (nul_mk 1 _ _ _ [p, q] _ _ hs2 hkC _ HC.out).mono ?_); rintro e w6 ⟨rfl, hb6⟩; have hBn : Below w10.heap.size w10 w6 := (by first | with_reducible exact below_step hB hb6 | with_reducible exact below_step (below_step hB (below_one _ _)) hb6); replace hB := hBn; clear hBn; have hl1 : b1 < w6.heap.size := Nat.lt_of_lt_of_le hlx hB.size; have hl2 : b2 < w6.heap.size := Nat.lt_of_lt_of_le hly hB.size; clear p0 p1 p2 p3 p4 p5 p6 p7 q0 q1 q2 q3 q4 q5 q6 q7; obtain ⟨p0, p1, p2, p3, p4, p5, p6, p7⟩ := (hx.below hB).cells; obtain ⟨q0, q1, q2, q3, q4, q5, q6, q7⟩ := (hy.below hB).cells)
                | ((with_reducible refine (nul_mk 4 _ _ _ [p, q] _ _ hs2 hkC _ HA.out).mono ?_); rintro e w6 ⟨rfl, hb6⟩; have hBn : Below w10.heap.size w10 w6 := (by first | with_reducible exact below_step hB hb6 | with_reducible exact below_step (below_step hB (below_one _ _)) hb6); replace hB := hBn; clear hBn; have hl1 : b1 < w6.heap.size := Nat.lt_of_lt_of_le hlx hB.size; have hl2 : b2 < w6.heap.size := Nat.lt_of_lt_of_le hly hB.size; clear p0 p1 p2 p3 p4 p5 p6 p7 q0 q1 q2 q3 q4 q5 q6 q7; obtain ⟨p0, p1, p2, p3, p4, p5, p6, p7⟩ := (hx.below hB).cells; obtain ⟨q0, q1, q2, q3, q4, q5, q6, q7⟩ := (hy.below hB).cells)
                | ((with_reducible refine (nul_mk 2 _ _ _ [p, q] _ _ hs2 hkC _ HO.out).mono ?_); rintro e w6 ⟨rfl, hb6⟩; have hBn : Below w10.heap.size w10 w6 := (by first | with_reducible exact below_step hB hb6 | with_reducible exact below_step (below_step hB (below_one _ _)) hb6); replace hB := hBn; clear hBn; have hl1 : b1 < w6.heap.size := Nat.lt_of_lt_of_le hlx hB.size; have hl2 : b2 < w6.heap.size := Nat.lt_of_lt_of_le hly hB.size; clear p0 p1 p2 p3 p4 p5 p6 p7 q0 q1 q2 q3 q4 q5 q6 q7; obtain ⟨p0, p1, p2, p3, p4, p5, p6, p7⟩ := (hx.below hB).cells; obtain ⟨q0, q1, q2, q3, q4, q5, q6, q7⟩ := (hy.below hB).cells)
                | ((with_reducible refine (nul_mk 3 _ 1 3 [p] _ _ hs1 hkC _ H1.out).mono ?_); rintro e w6 ⟨rfl, hb6⟩; have hBn : Below w10.heap.size w10 w6 := (by first | with_reducible exact below_step hB hb6 | with_reducible exact below_step (below_step hB (below_one _ _)) hb6); replace hB := hBn; clear hBn; have hl1 : b1 < w6.heap.size := Nat.lt_of_lt_of_le hlx hB.size; have hl2 : b2 < w6.heap.size := Nat.lt_of_lt_of_le hly hB.size; clear p0 p1 p2 p3 p4 p5 p6 p7 q0 q1 q2 q3 q4 q5 q6 q7; obtain ⟨p0, p1, p2, p3, p4, p5, p6, p7⟩ := (hx.below hB).cells; obtain ⟨q0, q1, q2, q3, q4, q5, q6, q7⟩ := (hy.below hB).cells)
                | ((with_reducible refine (nul_mk 3 _ 0 3 [p] _ _ hs1 hkC _ H0.out).mono ?_); rintro e w6 ⟨rfl, hb6⟩; have hBn : Below w10.heap.size w10 w6 := (by first | with_reducible exact below_step hB hb6 | with_reducible exact below_step (below_step hB (below_one _ _)) hb6); replace hB := hBn; clear hBn; have hl1 : b1 < w6.heap.size := Nat.lt_of_lt_of_le hlx hB.size; have hl2 : b2 < w6.heap.size := Nat.lt_of_lt_of_le hly hB.size; clear p0 p1 p2 p3 p4 p5 p6 p7 q0 q1 q2 q3 q4 q5 q6 q7; obtain ⟨p0, p1, p2, p3, p4, p5, p6, p7⟩ := (hx.below hB).cells; obtain ⟨q0, q1, q2, q3, q4, q5, q6, q7⟩ := (hy.below hB).cells)))
            go_meet
            exact ⟨rfl, hB⟩
        case rest =>
          obtain ⟨rfl, hb1011⟩ := hcut
          replace hx := hx.below hb1011
          replace hy := hy.below hb1011
          replace hz := hz.grown hb1011
          replace hkX := hkX.below hb1011
          replace hkY := hkY.below hb1011
          have hb011 := below_step hb010 hb1011
          clear hb1011 hb010 hlx hly hvp hvq
          obtain ⟨w11, hw11⟩ : ∃ x, x = wc := ⟨_, rfl⟩
          subst hw11
          have hlx := hx.lt
          have hly := hy.lt
          have hlz := hz.lt
          have HS1 := Lib.hid (size_two 1 p q)
          have HS2 := Lib.hid (size_two 2 p q)
          have HSN := Lib.hid (size_not p)
          have HBA := Lib.hid (bytes_and p q)
          have q3 := eq_set_same (p.bytes ||| q.bytes)
          go_wp2_with fail
          go_region_held3 (fun W => W.cell? ⟨b1, 0, none⟩ = some (.int .i64 p.op) ∧ W.cell? ⟨b1, 1, none⟩ = some (.int .u64 (wd p.set 0)) ∧ W.cell? ⟨b1, 2, none⟩ = some (.int .u64 (wd p.set 1)) ∧ W.cell? ⟨b1, 3, none⟩ = some (.int .u64 (wd p.set 2)) ∧ W.cell? ⟨b1, 4, none⟩ = some (.int .u64 (wd p.set 3)) ∧ W.cell? ⟨b1, 5, none⟩ = some (.int .i64 p.lo) ∧ W.cell? ⟨b1, 6, none⟩ = some (.int .i64 p.hi) ∧ W.cell? ⟨b1, 7, none⟩ = some (.slice a1 p.kids.length c1) ∧ W.cell? ⟨b2, 0, none⟩ = some (.int .i64 q.op) ∧ W.cell? ⟨b2, 1, none⟩ = some (.int .u64 (wd q.set 0)) ∧ W.cell? ⟨b2, 2, none⟩ = some (.int .u64 (wd q.set 1)) ∧ W.cell? ⟨b2, 3, none⟩ = some (.int .u64 (wd q.set 2)) ∧ W.cell? ⟨b2, 4, none⟩ = some (.int .u64 (wd q.set 3)) ∧ W.cell? ⟨b2, 5, none⟩ = some (.int .i64 q.lo) ∧ W.cell? ⟨b2, 6, none⟩ = some (.int .i64 q.hi) ∧ W.cell? ⟨b2, 7, none⟩ = some (.slice a2 q.kids.length c2) ∧ W.cell? ⟨b3, 0, none⟩ = some (.int .u64 (wd (p.bytes ||| q.bytes) 0)) ∧ W.cell? ⟨b3, 1, none⟩ = some (.int .u64 (wd (p.bytes ||| q.bytes) 1)) ∧ W.cell? ⟨b3, 2, none⟩ = some (.int .u64 (wd (p.bytes ||| q.bytes) 2)) ∧ W.cell? ⟨b3, 3, none⟩ = some (.int .u64 (wd (p.bytes ||| q.bytes) 3)) ∧ Below w11.heap.size w11 W)
            (first | (with_reducible exact s20_keep hlx hly hlz (by assumption) (by assumption)) | (with_reducible exact s20_keep hlx hly hlz (by assumption) (below_one _ _)) | (with_reducible exact s20_start hx hy hz (Below.refl _ _).drew))
            (first
              | (go_at_call 16; first | ((with_reducible refine (cat_p p q _ _ _ _ rfl hsp9 hsq9 (hkX.below (s20_below (by assumption))) (hkY.below (s20_below (by assumption)))).mono ?_); rintro e w6 ⟨a6, c6, rfl, hkC, hb6⟩) | ((with_reducible refine (cat_pd p q _ _ _ _ rfl hsp9 hsq9 (hkX.below (s20_below (by assumption))) (hkY.below (s20_below (by assumption)))).mono ?_); rintro e w6 ⟨a6, c6, rfl, hkC, hb6⟩))
              | (go_at_call 18; (with_reducible refine (alt_p p q _ _ _ _ rfl hsp9 hsq9 (hkX.below (s20_below (by assumption))) (hkY.below (s20_below (by assumption)))).mono ?_); rintro e w6 ⟨a6, c6, rfl, hkC, hb6⟩)
              | (go_at_call 19; (with_reducible refine (and_p p q _ _ _ _ rfl hsp9 hsq9 (hkX.below (s20_below (by assumption))) (hkY.below (s20_below (by assumption)))).mono ?_); rintro e w6 ⟨a6, c6, rfl, hkC, hb6⟩)
              | (go_at_call 20; (with_reducible refine (not_p p _ _ hsp (hkX.below (s20_below (by assumption)))).mono ?_); rintro e w6 ⟨a6, c6, rfl, hkC, hb6⟩)
              | (go_at_call 25; first | ((with_reducible refine (size_mk 1 _ _ _ [p, q] _ _ hs2 hkC _ HS1.out).mono ?_); rintro e w6 ⟨rfl, hb6⟩) | ((with_reducible refine (size_mk 2 _ _ _ [p, q] _ _ hs2 hkC _ HS2.out).mono ?_); rintro e w6 ⟨rfl, hb6⟩) | ((with_reducible refine (size_mk 5 _ _ _ [p] _ _ hs1 hkC _ HSN.out).mono ?_); rintro e w6 ⟨rfl, hb6⟩) | ((with_reducible refine (size_p p _ _ hsp9 (hkX.below (s20_below (by assumption)))).mono ?_); rintro e w6 ⟨rfl, hb6⟩))
              | (go_at_call 27; (with_reducible refine (bytes_mk 4 _ _ _ [p, q] _ _ hs2 hkC _ HBA.out).mono ?_); rintro e w6 ⟨rfl, hb6⟩))
          all_goals
            have hfin := below_step hb011 (s20_below (by assumption))
            go_wp2
            go_ret
            exact ⟨rfl, hfin⟩
end Go.Proofs.Ytnjcefjcpmjdiaa
