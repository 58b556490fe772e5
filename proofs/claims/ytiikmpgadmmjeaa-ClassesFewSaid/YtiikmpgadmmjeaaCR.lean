/- The laws' examples hold. -/
import Derived.Test.YtiikmpgadmmjeaaCO
import Derived.Test.YtiikmpgadmmjeaaCE
import Derived.Test.YtiikmpgadmmjeaaXG
set_option maxRecDepth 100000
namespace Go.Proofs.Ytiikmpgadmmjeaa
open Go.RowKit
attribute [local go_sem] zero_u8s

theorem ab_at {w : World} {b0 b1 b2 c : Nat} (h0 : w.heap[b0]? = some (.cells #[.int .u8 97, .int .u8 99, .int .i64 1] 50 (0, 0))) (h1 : w.heap[b1]? = some (.cells #[.int .u8 120, .int .u8 120, .int .i64 2] 50 (0, 0)))
    (h2 : w.heap[b2]? = some (.cells #[.int .u64 0, .slice (some ⟨b0, 0, none⟩) 1 1, .int .u64 0, .slice (some ⟨b1, 0, none⟩) 1 1, .int .u64 1, .slice none 0 0] 48 (0, 0))) : MachAt w (.slice (some ⟨b2, 0, none⟩) 3 c) abM := by
  refine ⟨_, c, rfl, fun i hi => ?_⟩
  have hi3 : i < 3 := hi
  match i, hi3 with
  | 0, _ => exact ⟨b2, 0, .slice (some ⟨b0, 0, none⟩) 1 1, rfl, (cell_of_row w b2 0 _ _ _ h2).trans rfl, (cell_of_row w b2 1 _ _ _ h2).trans rfl, ⟨_, 1, rfl, fun k hk => by
      have hk1 : k < 1 := hk
      obtain rfl : k = 0 := by omega
      exact ⟨b0, 0, rfl, (cell_of_row w b0 0 _ _ _ h0).trans rfl, (cell_of_row w b0 1 _ _ _ h0).trans rfl, (cell_of_row w b0 2 _ _ _ h0).trans rfl⟩⟩⟩
  | 1, _ => exact ⟨b2, 0, .slice (some ⟨b1, 0, none⟩) 1 1, rfl, (cell_of_row w b2 2 _ _ _ h2).trans rfl, (cell_of_row w b2 3 _ _ _ h2).trans rfl, ⟨_, 1, rfl, fun k hk => by
      have hk1 : k < 1 := hk
      obtain rfl : k = 0 := by omega
      exact ⟨b1, 0, rfl, (cell_of_row w b1 0 _ _ _ h1).trans rfl, (cell_of_row w b1 1 _ _ _ h1).trans rfl, (cell_of_row w b1 2 _ _ _ h1).trans rfl⟩⟩⟩
  | 2, _ => exact ⟨b2, 0, .slice none 0 0, rfl, (cell_of_row w b2 4 _ _ _ h2).trans rfl, (cell_of_row w b2 5 _ _ _ h2).trans rfl, ArcsAt.nil w⟩
theorem oper_load_u8c {op : Oper} {a : Act} {w : World} {K : Act → World → Prop} {Q : Exit → Act → World → Prop} (b : Nat) (f : Nat → Nat) (hb : UBlk w b f) (x : Operand) (ho : op.op = .load 24 x)
    (hx : a.eval x = .pointer (some ⟨b, 0, none⟩)) (h : K (a.put op.dst (.agg (U8s f))) w) : Oper.wp Try.prog op a w K Q := by
  unfold Oper.wp
  rw [exec_load_u8c hb x ho hx]
  exact h
theorem wpList_load_u8g {ops : Array Oper} {rest : List Oper} {op : Oper} {a : Act} {w : World} {Q : Exit → Act → World → Prop} (b : Nat) (f : Nat → Nat) (hb : UBlk w b f) (hw : Region.wanted op (yielded ops a.tmps) = true) (x : Operand) (ho : op.op = .load 24 x)
    (hx : a.eval x = .pointer (some ⟨b, 0, none⟩)) (h : wpList Try.prog ops Q rest (a.put op.dst (.agg (U8s f))) w) : wpList Try.prog ops Q (op :: rest) a w :=
  wpList_step fun K hK => by
    rw [if_pos hw]
    exact oper_load_u8c b f hb x ho hx (hK _ _ h)
theorem ends_three {w : World} : EndsAt (w.alloc (.cells #[.int .u64 0, .int .u64 0, .int .u64 1] 34)) (.slice (some ⟨w.heap.size, 0, none⟩) 3 3) [0, 0, 1] := by
  have h := heap_alloc_new w (.cells #[.int .u64 0, .int .u64 0, .int .u64 1] 34)
  refine ⟨_, 3, rfl, fun i hi => ⟨w.heap.size, 0, rfl, ?_⟩⟩
  have hi3 : i < 3 := hi
  match i, hi3 with
  | 0, _ => exact (cell_of_row _ _ 0 _ _ _ h).trans rfl
  | 1, _ => exact (cell_of_row _ _ 1 _ _ _ h).trans rfl
  | 2, _ => exact (cell_of_row _ _ 2 _ _ _ h).trans rfl
set_option maxHeartbeats 8000000 in
theorem awake_any (w : World) : Calls Try.prog 7 #[] w fun e w' => e = .returned (.bool true) ∧ Below w.heap.size w w' := by
  obtain ⟨B0, hB⟩ : ∃ B, w.heap.size = B := ⟨_, rfl⟩
  have HB := Lib.hid hB
  rw [hB]
  go_enter Try.func7, Try.ntmps7
  go_upto_region 2 with fail
  obtain ⟨w1, hw1⟩ : ∃ w1, ((w.alloc (.cells #[.int .u8 97, .int .u8 99, .int .i64 1] 50)).alloc (.cells #[.int .u8 120, .int .u8 120, .int .i64 2] 50)).alloc (.cells #[.int .u64 0, .slice (some ⟨B0, 0, none⟩) 1 1, .int .u64 0, .slice (some ⟨B0 + 1, 0, none⟩) 1 1, .int .u64 1, .slice none 0 0] 48) = w1 := ⟨_, rfl⟩
  have h0 : w1.heap[B0]? = some (.cells #[.int .u8 97, .int .u8 99, .int .i64 1] 50 (0, 0)) := by
    rw [← hw1, heap_alloc_old _ _ (by simp; omega), heap_alloc_old _ _ (by simp; omega), ← hB]; exact heap_alloc_new w _
  have h1 : w1.heap[B0 + 1]? = some (.cells #[.int .u8 120, .int .u8 120, .int .i64 2] 50 (0, 0)) := by
    rw [← hw1, heap_alloc_old _ _ (by simp; omega)]
    have := heap_alloc_new (w.alloc (.cells #[.int .u8 97, .int .u8 99, .int .i64 1] 50)) (.cells #[.int .u8 120, .int .u8 120, .int .i64 2] 50)
    rw [World.size_alloc, hB] at this; exact this
  have h2 : w1.heap[B0 + 1 + 1]? = some (.cells #[.int .u64 0, .slice (some ⟨B0, 0, none⟩) 1 1, .int .u64 0, .slice (some ⟨B0 + 1, 0, none⟩) 1 1, .int .u64 1, .slice none 0 0] 48 (0, 0)) := by
    rw [← hw1]
    have := heap_alloc_new ((w.alloc (.cells #[.int .u8 97, .int .u8 99, .int .i64 1] 50)).alloc (.cells #[.int .u8 120, .int .u8 120, .int .i64 2] 50)) (.cells #[.int .u64 0, .slice (some ⟨B0, 0, none⟩) 1 1, .int .u64 0, .slice (some ⟨B0 + 1, 0, none⟩) 1 1, .int .u64 1, .slice none 0 0] 48)
    rw [World.size_alloc, World.size_alloc, hB] at this; exact this
  have HB1 : Hid (Below B0 w w1) := Lib.hid (by
    rw [← hw1, ← hB]
    exact (((Below.refl _ w).alloc (Nat.le_refl _) _).alloc (by simp) _).alloc (by simp; omega) _)
  have hm1 : MachAt w1 (.slice (some ⟨B0 + 1 + 1, 0, none⟩) 3 3) abM := ab_at h0 h1 h2
  have HM1 := Lib.hid hm1
  have hs1 : w1.heap.size = B0 + 3 := by rw [← hw1]; simp [hB]
  rw [hw1]
  clear hw1 h0 h1 h2
  generalize B0 + 1 + 1 = bm at *
  obtain ⟨cl, hcl⟩ : ∃ cl, clsOf (likeB abM) = cl := ⟨_, rfl⟩
  have HOF : Hid (Calls Try.prog 8 #[.slice (some ⟨bm, 0, none⟩) 3 3] w1 fun e w' => e = .returned (.tuple #[.agg (U8s cl), .int .i64 3]) ∧ Below w1.heap.size w1 w') := Lib.hid (by
    have h := of_any _ abM w1 hm1 (by decide) ab_len ab_mays
    rw [ab_cnt, hcl] at h
    exact h)
  have HTB := Lib.hid (fun W (hW : Below w1.heap.size w1 W) => table_any _ abM W (hm1.below hW) (by decide) ab_len ab_mays)
  rw [ab_tab] at HTB
  have HLW : Hid (∀ W, Calls Try.prog 10 #[.agg (U8s cl)] W fun e w' => ∃ b, e = .returned (.slice (some ⟨b, 0, none⟩) 3 3) ∧ W.heap.size ≤ b ∧ Hid (LBlk w' b 3 (lowF cl 256)) ∧ Hid (Below W.heap.size W w')) := Lib.hid (fun W => lows_any cl 3 W (by rw [← hcl]; exact cls_lt abM) (by rw [← hcl, cnt_mx, ab_cnt]))
  have HLO := Lib.hid (show (List.range 3).map (lowF cl 256) = [0, 97, 120] by rw [← hcl]; exact ab_low)
  have HCB := Lib.hid (show cl 98 = 1 by rw [← hcl]; exact ab_b)
  have HCD := Lib.hid (show cl 100 = 0 by rw [← hcl]; exact ab_d)
  have HCL := Lib.hid (show ∀ b, b < 256 → cl b < 256 by rw [← hcl]; exact cls_lt abM)
  have HOK : Hid (TabOk [[-1, 1, -1], [-1, -1, 2], [-1, -1, -1]]) := Lib.hid (by rw [← ab_tab]; exact tab_ok ab_mays (by decide))
  have HBX := Lib.hid (show runT [[-1, 1, -1], [-1, -1, 2], [-1, -1, -1]] cl [98, 120] = 2 by rw [← hcl, ← ab_tab]; exact ab_bx)
  have HX := Lib.hid (show runT [[-1, 1, -1], [-1, -1, 2], [-1, -1, -1]] cl [120] = -1 by rw [← hcl, ← ab_tab]; exact ab_x)
  have HBK := Lib.hid (show backS [[-1, 1, -1], [-1, -1, 2], [-1, -1, -1]] cl [0, 0, 1] = abM by rw [← hcl, ← ab_tab]; exact ab_back)
  obtain ⟨I1, hI1⟩ : ∃ I1, U8s (fun _ => 0) = I1 := ⟨_, rfl⟩
  have HI1 := Lib.hid hI1
  have hz := zero_u8s
  rw [hI1] at hz
  clear hI1 hcl hm1
  go_upto_region 3 with (first
    | (go_at_call 8; (with_reducible refine HOF.out.mono ?_); rintro e w5 ⟨rfl, hb5⟩; have HB5 := Lib.hid hb5; obtain ⟨n5, hn5⟩ : ∃ n5, w5.heap.size = n5 := ⟨_, rfl⟩; have HN5 := Lib.hid hn5; have HC5 : Hid (UBlk (w5.alloc (.cells I1 24)) n5 fun _ => 0) := Lib.hid (by rw [← HI1.out, ← hn5]; exact UBlk.new w5 _); clear hb5)
    | (refine wpList_store_u8c n5 (fun _ => 0) cl HC5.out rfl _ _ rfl rfl rfl ?_))
  obtain ⟨w2, hw2⟩ : ∃ w2, (w5.alloc (.cells I1 24)).setRow n5 (U8s cl) = w2 := ⟨_, rfl⟩
  have hn5 := HN5.out
  have hb52 : Below n5 w5 w2 := by rw [← hw2]; exact below_setRow ((Below.refl n5 w5).alloc (by omega) _) (Nat.le_refl n5) _
  have HC2 : Hid (UBlk w2 n5 cl) := Lib.hid (by rw [← hw2]; exact HC5.out.setRow)
  have hb12 : Below w1.heap.size w1 w2 := HB5.out.trans (hb52.mono (by have := HB5.out.size; omega))
  have HB12 := Lib.hid hb12
  have HT2 := Lib.hid (HTB.out w2 hb12)
  have HM2 := Lib.hid (HM1.out.below hb12)
  have HBW2 := Lib.hid (HB1.out.trans (hb12.mono (by omega)))
  rw [hw2]
  clear hw2 hn5 hb52 hb12 HC5 HB5 HOF HTB hz HM1 HB1
  go_upto_region 4 with (go_at_call 13; (with_reducible refine HT2.out.mono ?_); rintro e w3 ⟨u3, vs, rfl, hr3, hb3⟩)
  have HC3 := Lib.hid (HC2.out.below hb3.out)
  have HM3 := Lib.hid (HM2.out.below hb3.out)
  have HBW3 := Lib.hid (HBW2.out.trans (hb3.out.mono (by rw [← HB.out]; exact HBW2.out.size)))
  have HT3 := Lib.hid hr3.out.tab
  obtain ⟨a3, c3, rfl⟩ := hr3.out.tab.len
  have HL3 := Lib.hid (HLW.out w3)
  clear HT2 HC2 HM2 HB12 HBW2 hr3 hb3
  have HT4 : Hid (TabAt w3 (.slice a3 3 c3) [[-1, 1, -1], [-1, -1, 2], [-1, -1, -1]]) := HT3
  rw [show ([[-1, 1, -1], [-1, -1, 2], [-1, -1, -1]] : List (List Int)).length = 3 from rfl]
  obtain ⟨bt, ot, rv, rfl, e0, hrow⟩ := HT4.out.at (i := 0) rfl (by decide)
  have hrow2 : NumsAt w3 rv [-1, 1, -1] := hrow
  obtain ⟨ar, cr, rfl⟩ := hrow2.len
  obtain ⟨br, or, rfl, e1⟩ := hrow2.at (i := 0) rfl (by decide)
  obtain ⟨br2, or2, he, e2⟩ := hrow2.at (i := 1) rfl (by decide)
  cases he
  have e1 : w3.cell? ⟨br, or, none⟩ = some (.int .i64 (-1)) := e1
  have e0 : w3.cell? ⟨bt, ot, none⟩ = _ := e0
  have e2 : w3.cell? ⟨br, or + 1, none⟩ = some (.int .i64 1) := e2
  have E0 := Lib.hid e0
  have E1 := Lib.hid e1
  have E2 := Lib.hid e2
  rw [show ([-1, 1, -1] : List Int).length = 3 from rfl] at E0
  have HRB := Lib.hid (fun W (hW : Below w3.heap.size w3 W) => trun_any cl _ _ ⟨#[98, 120]⟩ W (HT4.out.below hW) HOK.out HCL.out (by decide))
  have HRX := Lib.hid (fun W (hW : Below w3.heap.size w3 W) => trun_any cl _ _ ⟨#[120]⟩ W (HT4.out.below hW) HOK.out HCL.out (by decide))
  rw [show bytesOf ⟨#[98, 120]⟩ = [98, 120] from rfl, HBX.out] at HRB
  rw [show bytesOf ⟨#[120]⟩ = [120] from rfl, HX.out] at HRX
  have HBA := Lib.hid (fun W (hW : Below w3.heap.size w3 W) => back10_any cl _ _ _ [0, 0, 1] (W.alloc (.cells #[.int .u64 0, .int .u64 0, .int .u64 1] 34)) HOK.out (by decide) HCL.out (HT4.out.below (hW.trans ((new_one W _).mono hW.size))) (ends_three (w := W)))
  rw [HBK.out] at HBA
  clear hrow hrow2 e0 e1 e2 HT3
  go_wp2_with (first
    | (refine wpList_load_u8g n5 cl HC3.out (by rfl) _ (by rfl) (by rfl) ?_)
    | (go_at_call 10; (with_reducible refine HL3.out.mono ?_); rintro e w4 ⟨L, rfl, hL, HL4, HB4⟩; have HC4 := Lib.hid (HC3.out.below HB4.out); have hconv := conv_low HL4.out; rw [HLO.out] at hconv; have hconv2 : (convert 28 9 (.slice (some ⟨L, 0, none⟩) 3 3)).run Try.prog w4 = .ok (.string ⟨#[0, 97, 120]⟩) w4 := hconv; have x98 := HC4.out.cell (i := 98) (by decide); rw [HCB.out] at x98; have x100 := HC4.out.cell (i := 100) (by decide); rw [HCD.out] at x100; have f0 := cell_below HB4.out E0.out; have f1 := cell_below HB4.out E1.out; have f2 := cell_below HB4.out E2.out; have HR4 := Lib.hid (HRB.out w4 HB4.out); clear hconv)
    | (refine wpList_load_u8g n5 cl HC4.out (by rfl) _ (by rfl) (by rfl) ?_)
    | (go_at_call 18; (with_reducible refine HR4.out.mono ?_); rintro e w5 ⟨rfl, hb5⟩; have HB5 := Lib.hid (HB4.out.trans (hb5.mono HB4.out.size)); have HC5 := Lib.hid (HC4.out.below hb5); have HR5 := Lib.hid (HRX.out w5 HB5.out); clear hb5)
    | (refine wpList_load_u8g n5 cl HC5.out (by rfl) _ (by rfl) (by rfl) ?_)
    | (go_at_call 18; (with_reducible refine HR5.out.mono ?_); rintro e w6 ⟨rfl, hb6⟩; have HB6 := Lib.hid (HB5.out.trans (hb6.mono HB5.out.size)); have HC6 := Lib.hid (HC5.out.below hb6); have HR6 := Lib.hid (HBA.out w6 HB6.out); clear hb6)
    | (refine wpList_load_u8g n5 cl HC6.out (by rfl) _ (by rfl) (by rfl) ?_)
    | (go_at_call 16; (with_reducible refine HR6.out.mono ?_); rintro e w8 ⟨v8, vs8, rfl, hr8, hb8⟩; have hb68 := (new_one w6 (.cells #[.int .u64 0, .int .u64 0, .int .u64 1] 34)).trans (hb8.out.mono (by simp)); have HB8 := Lib.hid (HB6.out.trans (hb68.mono HB6.out.size)); have HS8 := Lib.hid (rsame07_any v8 _ abM abM w8 hr8.out.mach (HM3.out.below HB8.out) (by decide) ab_len ab_len); clear hb68 hr8 hb8)
    | (go_at_call 15; (with_reducible refine HS8.out.mono ?_); rintro e w9 ⟨rfl, hb9⟩; rw [show sameB abM abM = true from sameB_true.2 rfl]; have HB9 := Lib.hid (HBW3.out.trans ((HB8.out.trans (hb9.mono HB8.out.size)).mono (by rw [← HB.out]; exact HBW3.out.size))); clear hb9))
  go_ret
  exact ⟨rfl, HB9.out⟩
end Go.Proofs.Ytiikmpgadmmjeaa
