/- The walk of ClassesOf. -/
import Derived.Test.YtiikmpgadmmjeaaCV
import Derived.Test.YtiikmpgadmmjeaaCI
import Derived.Test.YtiikmpgadmmjeaaCL
set_option maxRecDepth 100000
namespace Go.Proofs.Ytiikmpgadmmjeaa
open Go.RowKit
attribute [local go_sem] zero_u8s

set_option linter.unusedSimpArgs false in
set_option maxHeartbeats 8000000 in
theorem of_law (v : Value) (m : List Sta) (rw_ : Nat → Nat) (w : World) (hv : MachAt w v m) (hml : m.length < 9223372036854775808) (hl : ∀ s ∈ m, s.arcs.length < 9223372036854775808) (hm : Mays m) (hrw : ∀ b, b < 256 → rw_ b < 256) :
    Calls Try.prog 3 #[v, .agg (U8s rw_)] w fun e w' => e = .returned (.bool true) ∧ Below w.heap.size w w' := by
  have mixed : Try.prog.follows .mixedOrders = true := by kernel_rfl
  obtain ⟨B0, hB⟩ : ∃ B, w.heap.size = B := ⟨_, rfl⟩
  have HB := Lib.hid hB
  have HV0 := Lib.hid (fun W (hW : Below B0 w W) => hv.below (by rw [hB]; exact hW))
  obtain ⟨av, cv, rfl⟩ := hv.len
  obtain ⟨I0, hI0⟩ : ∃ I0, U8s rw_ = I0 := ⟨_, rfl⟩
  obtain ⟨w0, hw0⟩ : ∃ w0, w.alloc (.cells I0 24) = w0 := ⟨_, rfl⟩
  have HU : Hid (UBlk w0 B0 rw_) := Lib.hid (by rw [← hw0, ← hI0, ← hB]; exact UBlk.new w rw_)
  have HBW : Hid (Below B0 w w0) := Lib.hid (by rw [← hw0, ← hB]; exact new_one w _)
  have HL := Lib.hid hl
  have HM := Lib.hid hm
  have HRW := Lib.hid hrw
  clear hv hl hm hrw
  rw [hI0, hB]
  clear hI0
  by_cases h12 : m.length ≤ 12
  · have d1 : decide ((m.length : Int) > 12) = false := decide_eq_false (by omega)
    have d2 : decide ((12 : Int) < m.length) = false := decide_eq_false (by omega)
    have d3 : decide (12 < m.length) = false := decide_eq_false (by omega)
    have HOF := Lib.hid (fun W hW => of_any _ m W (HV0.out W hW) (by omega) HL.out HM.out)
    have HRO := Lib.hid (fun W hW => rof_any _ m W (HV0.out W hW) (by omega) HL.out HM.out)
    have HTA := Lib.hid (fun W hW => table_any _ m W (HV0.out W hW) (by omega) HL.out HM.out)
    have HTR := Lib.hid (fun W hW => rtable_any _ m W (HV0.out W hW) (by omega) HL.out HM.out)
    have HOK := Lib.hid (tab_ok HM.out (by omega))
    have HCL := Lib.hid (cls_lt m)
    have HCM := Lib.hid (cnt_mx m)
    obtain ⟨n, hn⟩ : ∃ n, cntOf m = n := ⟨_, rfl⟩
    obtain ⟨cl, hcl⟩ : ∃ cl, clsOf (likeB m) = cl := ⟨_, rfl⟩
    rw [hn, hcl] at HOF HRO
    rw [hcl] at HCL
    rw [hcl, hn] at HCM
    clear hn hcl
    obtain ⟨T, hT⟩ : ∃ T, tabS m = T := ⟨_, rfl⟩
    rw [hT] at HTA HTR HOK
    clear hT h12
    obtain ⟨I1, hI1⟩ : ∃ I1, U8s (fun _ => 0) = I1 := ⟨_, rfl⟩
    have HI1 := Lib.hid hI1
    have hz := zero_u8s
    rw [hI1] at hz
    clear hI1
    go_enter Try.func3, Try.ntmps3
    go_upto_region 7 with (first
      | (go_at_call 7; (with_reducible refine (awake_any _).mono ?_); rintro e w2 ⟨rfl, hb2⟩; have HBW2 := Lib.hid (HBW.out.trans (hb2.mono (by rw [← HB.out]; exact HBW.out.size))); have HU2 := Lib.hid (HU.out.below hb2); have HOF2 := Lib.hid (HOF.out w2 HBW2.out); clear hb2)
      | (go_at_call 8; (with_reducible refine HOF2.out.mono ?_); rintro e w5 ⟨rfl, hb5⟩; have HB5 := Lib.hid hb5; obtain ⟨n5, hn5⟩ : ∃ n5, w5.heap.size = n5 := ⟨_, rfl⟩; have HN5 := Lib.hid hn5; have HC5 : Hid (UBlk (w5.alloc (.cells I1 24)) n5 fun _ => 0) := Lib.hid (by rw [← HI1.out, ← hn5]; exact UBlk.new w5 _); clear hb5)
      | (refine wpList_store_u8c n5 (fun _ => 0) cl HC5.out rfl _ _ rfl rfl rfl ?_))
    obtain ⟨w6, hw6⟩ : ∃ w6, (w5.alloc (.cells I1 24)).setRow n5 (U8s cl) = w6 := ⟨_, rfl⟩
    have hn5 := HN5.out
    have hb56 : Below n5 w5 w6 := by rw [← hw6]; exact below_setRow ((Below.refl n5 w5).alloc (by omega) _) (Nat.le_refl n5) _
    have HC6 : Hid (UBlk w6 n5 cl) := Lib.hid (by rw [← hw6]; exact HC5.out.setRow)
    have hb26 : Below w2.heap.size w2 w6 := HB5.out.trans (hb56.mono (by have := HB5.out.size; omega))
    have HBW6 := Lib.hid (HBW2.out.trans (hb26.mono (by rw [← HB.out]; exact HBW2.out.size)))
    have HU6 := Lib.hid (HU2.out.below hb26)
    have HRO6 := Lib.hid (HRO.out w6 HBW6.out)
    rw [hw6]
    clear hw6 hn5 hb56 hb26 HC5 HB5 HOF2 HU2 HBW2 HN5
    go_upto_region 8 with (first
      | (go_at_call 9; (with_reducible refine HRO6.out.mono ?_); rintro e w7 ⟨rfl, hb7⟩; have HB7 := Lib.hid hb7; obtain ⟨n7, hn7⟩ : ∃ n7, w7.heap.size = n7 := ⟨_, rfl⟩; have HN7 := Lib.hid hn7; have HC7 : Hid (UBlk (w7.alloc (.cells I1 24)) n7 fun _ => 0) := Lib.hid (by rw [← HI1.out, ← hn7]; exact UBlk.new w7 _); clear hb7)
      | (refine wpList_store_u8c n7 (fun _ => 0) cl HC7.out rfl _ _ rfl rfl rfl ?_))
    obtain ⟨w8, hw8⟩ : ∃ w8, (w7.alloc (.cells I1 24)).setRow n7 (U8s cl) = w8 := ⟨_, rfl⟩
    have hn7 := HN7.out
    have hb78 : Below n7 w7 w8 := by rw [← hw8]; exact below_setRow ((Below.refl n7 w7).alloc (by omega) _) (Nat.le_refl n7) _
    have HD8 : Hid (UBlk w8 n7 cl) := Lib.hid (by rw [← hw8]; exact HC7.out.setRow)
    have hb68 : Below w6.heap.size w6 w8 := HB7.out.trans (hb78.mono (by have := HB7.out.size; omega))
    have HBW8 := Lib.hid (HBW6.out.trans (hb68.mono (by rw [← HB.out]; exact HBW6.out.size)))
    have HU8 := Lib.hid (HU6.out.below hb68)
    have HC8 := Lib.hid (HC6.out.below hb68)
    rw [hw8]
    clear hw8 hn7 hb78 hb68 HC7 HB7 HRO6 HU6 HBW6 HN7 HC6 hz HOF HRO
    obtain ⟨sA, hsA⟩ : ∃ s, strOf ((List.range n).map (lowF cl 256)) = s := ⟨_, rfl⟩
    have HSA := Lib.hid hsA
    obtain ⟨k, hk⟩ : ∃ k, mxOf rw_ 256 + 1 = k := ⟨_, rfl⟩
    have HK := Lib.hid hk
    obtain ⟨sB, hsB⟩ : ∃ s, strOf ((List.range k).map (lowF rw_ 256)) = s := ⟨_, rfl⟩
    have HSB := Lib.hid hsB
    clear hsA hk hsB
    refine region_goes 34 34 rfl (fun W => Below w8.heap.size w8 W) mixed (Below.refl _ _).drew (fun hHeld => ?_)
    refine goes_take0 (i := 0) (v := .agg (U8s cl)) rfl (by kernel_rfl) (by kernel_rfl) (by kernel_rfl) rfl (fun _ _ _ h => h) (Or.inl ⟨by rfl, ?gxo1⟩) (by assumption) ?gqo1
    case gxo1 => (intro W9 hW9; exact exec_load_u8c ((HC8.out).below hW9) (.tmp 6) rfl rfl)
    simp only [Act.put, List.getElem_toArray, List.getElem_cons_succ, List.getElem_cons_zero, List.setIfInBounds_toArray, List.set_cons_zero, List.set_cons_succ]
    refine goes_take0 (i := 1) (v := .agg (U8s cl)) rfl (by kernel_rfl) (by kernel_rfl) (by kernel_rfl) rfl (fun _ _ _ h => h) (Or.inl ⟨by rfl, ?gxo2⟩) (by assumption) ?gqo2
    case gxo2 => (intro W9 hW9; exact exec_load_u8c ((HD8.out).below hW9) (.tmp 8) rfl rfl)
    simp only [Act.put, List.getElem_toArray, List.getElem_cons_succ, List.getElem_cons_zero, List.setIfInBounds_toArray, List.set_cons_zero, List.set_cons_succ]
    refine goes_take0 (i := 2) (v := .bool true) rfl (by kernel_rfl) (by kernel_rfl) (by kernel_rfl) rfl (fun _ _ _ h => h) (Or.inl ⟨by rfl, ?gxo3⟩) (by assumption) ?gqo3
    case gxo3 => (intro W9 _; have hq := equal_u8c cl W9; first | (go_simp; done) | (go_simp; with_reducible rfl))
    simp only [Act.put, List.getElem_toArray, List.getElem_cons_succ, List.getElem_cons_zero, List.setIfInBounds_toArray, List.set_cons_zero, List.set_cons_succ]
    refine goes_take0 (i := 3) (v := ?gwo4) rfl (by kernel_rfl) (by kernel_rfl) (by kernel_rfl) rfl (fun _ _ _ h => h) (Or.inl ⟨by rfl, ?gxo4⟩) (by assumption) ?gqo4
    case gxo4 => (intro W9 _; first | (go_simp; done) | (go_simp; with_reducible rfl))
    simp only [Act.put, List.getElem_toArray, List.getElem_cons_succ, List.getElem_cons_zero, List.setIfInBounds_toArray, List.set_cons_zero, List.set_cons_succ]
    refine goes_take0 (i := 4) (v := ?gwo5) rfl (by kernel_rfl) (by kernel_rfl) (by kernel_rfl) rfl (fun _ _ _ h => h) (Or.inl ⟨by rfl, ?gxo5⟩) (by assumption) ?gqo5
    case gxo5 => (intro W9 _; first | (go_simp; done) | (go_simp; with_reducible rfl))
    simp only [Act.put, List.getElem_toArray, List.getElem_cons_succ, List.getElem_cons_zero, List.setIfInBounds_toArray, List.set_cons_zero, List.set_cons_succ]
    refine goes_take0 (i := 5) (v := ?gwo6) rfl (by kernel_rfl) (by kernel_rfl) (by kernel_rfl) rfl (fun _ _ _ h => h) (Or.inl ⟨by rfl, ?gxo6⟩) (by assumption) ?gqo6
    case gxo6 => (intro W9 _; first | (go_simp; done) | (go_simp; with_reducible rfl))
    simp only [Act.put, List.getElem_toArray, List.getElem_cons_succ, List.getElem_cons_zero, List.setIfInBounds_toArray, List.set_cons_zero, List.set_cons_succ]
    refine goes_take0 (i := 6) (v := ?gwo7) rfl (by kernel_rfl) (by kernel_rfl) (by kernel_rfl) rfl (fun _ _ _ h => h) (Or.inl ⟨by rfl, ?gxo7⟩) (by assumption) ?gqo7
    case gxo7 => (intro W9 _; first | (go_simp; done) | (go_simp; with_reducible rfl))
    simp only [Act.put, List.getElem_toArray, List.getElem_cons_succ, List.getElem_cons_zero, List.setIfInBounds_toArray, List.set_cons_zero, List.set_cons_succ]
    refine goes_take0 (i := 7) (v := ?gwo8) rfl (by kernel_rfl) (by kernel_rfl) (by kernel_rfl) rfl (fun _ _ _ h => h) (Or.inl ⟨by rfl, ?gxo8⟩) (by assumption) ?gqo8
    case gxo8 => (intro W9 _; first | (go_simp; done) | (go_simp; with_reducible rfl))
    simp only [Act.put, List.getElem_toArray, List.getElem_cons_succ, List.getElem_cons_zero, List.setIfInBounds_toArray, List.set_cons_zero, List.set_cons_succ]
    refine goes_take0 (i := 8) (v := ?gwo9) rfl (by kernel_rfl) (by kernel_rfl) (by kernel_rfl) rfl (fun _ _ _ h => h) (Or.inl ⟨by rfl, ?gxo9⟩) (by assumption) ?gqo9
    case gxo9 => (intro W9 _; first | (go_simp; done) | (go_simp; with_reducible rfl))
    simp only [Act.put, List.getElem_toArray, List.getElem_cons_succ, List.getElem_cons_zero, List.setIfInBounds_toArray, List.set_cons_zero, List.set_cons_succ]
    refine goes_take0 (i := 9) (v := .agg (U8s cl)) rfl (by kernel_rfl) (by kernel_rfl) (by kernel_rfl) rfl (fun _ _ _ h => h) (Or.inl ⟨by rfl, ?gxo10⟩) (by assumption) ?gqo10
    case gxo10 => (intro W9 hW9; exact exec_load_u8c ((HC8.out).below hW9) (.tmp 6) rfl rfl)
    simp only [Act.put, List.getElem_toArray, List.getElem_cons_succ, List.getElem_cons_zero, List.setIfInBounds_toArray, List.set_cons_zero, List.set_cons_succ]
    refine goes_take0 (i := 12) (v := .agg (U8s cl)) rfl (by kernel_rfl) (by kernel_rfl) (by kernel_rfl) rfl (fun _ _ _ h => h) (Or.inl ⟨by rfl, ?gxo11⟩) (by assumption) ?gqo11
    case gxo11 => (intro W9 hW9; exact exec_load_u8c ((HD8.out).below hW9) (.tmp 8) rfl rfl)
    simp only [Act.put, List.getElem_toArray, List.getElem_cons_succ, List.getElem_cons_zero, List.setIfInBounds_toArray, List.set_cons_zero, List.set_cons_succ]
    refine goes_one (i := 10) (by kernel_rfl) rfl (fun K9 hK9 => ?_)
    go_simp
    with_reducible refine (lows_any cl n _ HCL.out HCM.out).mono ?_
    rintro e wa ⟨L1, rfl, _, HL1, HB1⟩
    have hAnwa := hHeld.trans ((HB1.out).mono hHeld.size)
    refine hK9.out _ _ (fun _ => hAnwa) (fun _ => ?_)
    clear hK9 K9 hHeld
    refine Goes.more (S2 := fun W => Below wa.heap.size wa W) (fun W h => hAnwa.trans (h.mono hAnwa.size)) ?_
    have hHeld := Below.refl wa.heap.size wa
    refine goes_take0 (i := 11) (v := .string sA) rfl (by kernel_rfl) (by kernel_rfl) (by kernel_rfl) rfl (fun _ _ _ h => h) (Or.inl ⟨by rfl, ?gxo12⟩) (by assumption) ?gqo12
    case gxo12 => (intro W9 hW9; have hq := conv_low (HL1.out.below hW9); rw [HSA.out] at hq; first | (go_simp; done) | (go_simp; with_reducible rfl))
    simp only [Act.put, List.getElem_toArray, List.getElem_cons_succ, List.getElem_cons_zero, List.setIfInBounds_toArray, List.set_cons_zero, List.set_cons_succ]
    refine goes_one (i := 13) (by kernel_rfl) rfl (fun K9 hK9 => ?_)
    go_simp
    with_reducible refine (rlows_any cl n _ HCL.out HCM.out).mono ?_
    rintro e wb ⟨L2, rfl, _, HL2, HB2⟩
    have hAnwb := hHeld.trans ((HB2.out).mono hHeld.size)
    refine hK9.out _ _ (fun _ => hAnwb) (fun _ => ?_)
    clear hK9 K9 hHeld
    refine Goes.more (S2 := fun W => Below wb.heap.size wb W) (fun W h => hAnwb.trans (h.mono hAnwb.size)) ?_
    have hHeld := Below.refl wb.heap.size wb
    refine goes_take0 (i := 14) (v := .string sA) rfl (by kernel_rfl) (by kernel_rfl) (by kernel_rfl) rfl (fun _ _ _ h => h) (Or.inl ⟨by rfl, ?gxo13⟩) (by assumption) ?gqo13
    case gxo13 => (intro W9 hW9; have hq := conv_low (HL2.out.below hW9); rw [HSA.out] at hq; first | (go_simp; done) | (go_simp; with_reducible rfl))
    simp only [Act.put, List.getElem_toArray, List.getElem_cons_succ, List.getElem_cons_zero, List.setIfInBounds_toArray, List.set_cons_zero, List.set_cons_succ]
    refine goes_take0 (i := 15) (v := .bool true) rfl (by kernel_rfl) (by kernel_rfl) (by kernel_rfl) rfl (fun _ _ _ h => h) (Or.inl ⟨by rfl, ?gxo14⟩) (by assumption) ?gqo14
    case gxo14 => (intro W9 _; first | (go_simp; done) | (go_simp; with_reducible rfl))
    simp only [Act.put, List.getElem_toArray, List.getElem_cons_succ, List.getElem_cons_zero, List.setIfInBounds_toArray, List.set_cons_zero, List.set_cons_succ]
    refine goes_take0 (i := 16) (v := ?gwo15) rfl (by kernel_rfl) (by kernel_rfl) (by kernel_rfl) rfl (fun _ _ _ h => h) (Or.inl ⟨by rfl, ?gxo15⟩) (by assumption) ?gqo15
    case gxo15 => (intro W9 _; first | (go_simp; done) | (go_simp; with_reducible rfl))
    simp only [Act.put, List.getElem_toArray, List.getElem_cons_succ, List.getElem_cons_zero, List.setIfInBounds_toArray, List.set_cons_zero, List.set_cons_succ]
    refine goes_take0 (i := 17) (v := ?gwo16) rfl (by kernel_rfl) (by kernel_rfl) (by kernel_rfl) rfl (fun _ _ _ h => h) (Or.inl ⟨by rfl, ?gxo16⟩) (by assumption) ?gqo16
    case gxo16 => (intro W9 _; first | (go_simp; done) | (go_simp; with_reducible rfl))
    simp only [Act.put, List.getElem_toArray, List.getElem_cons_succ, List.getElem_cons_zero, List.setIfInBounds_toArray, List.set_cons_zero, List.set_cons_succ]
    refine goes_take0 (i := 18) (v := .agg (U8s rw_)) rfl (by kernel_rfl) (by kernel_rfl) (by kernel_rfl) rfl (fun _ _ _ h => h) (Or.inl ⟨by rfl, ?gxo17⟩) (by assumption) ?gqo17
    case gxo17 => (intro W9 hW9; exact exec_load_u8c ((HU8.out.below (hAnwa.trans (hAnwb.mono hAnwa.size))).below hW9) (.tmp 3) rfl rfl)
    simp only [Act.put, List.getElem_toArray, List.getElem_cons_succ, List.getElem_cons_zero, List.setIfInBounds_toArray, List.set_cons_zero, List.set_cons_succ]
    refine goes_take0 (i := 21) (v := .agg (U8s rw_)) rfl (by kernel_rfl) (by kernel_rfl) (by kernel_rfl) rfl (fun _ _ _ h => h) (Or.inl ⟨by rfl, ?gxo18⟩) (by assumption) ?gqo18
    case gxo18 => (intro W9 hW9; exact exec_load_u8c ((HU8.out.below (hAnwa.trans (hAnwb.mono hAnwa.size))).below hW9) (.tmp 3) rfl rfl)
    simp only [Act.put, List.getElem_toArray, List.getElem_cons_succ, List.getElem_cons_zero, List.setIfInBounds_toArray, List.set_cons_zero, List.set_cons_succ]
    refine goes_one (i := 19) (by kernel_rfl) rfl (fun K9 hK9 => ?_)
    go_simp
    with_reducible refine (lows_any rw_ k _ HRW.out HK.out).mono ?_
    rintro e wc ⟨L3, rfl, _, HL3, HB3⟩
    have hAnwc := hHeld.trans ((HB3.out).mono hHeld.size)
    refine hK9.out _ _ (fun _ => hAnwc) (fun _ => ?_)
    clear hK9 K9 hHeld
    refine Goes.more (S2 := fun W => Below wc.heap.size wc W) (fun W h => hAnwc.trans (h.mono hAnwc.size)) ?_
    have hHeld := Below.refl wc.heap.size wc
    refine goes_take0 (i := 20) (v := .string sB) rfl (by kernel_rfl) (by kernel_rfl) (by kernel_rfl) rfl (fun _ _ _ h => h) (Or.inl ⟨by rfl, ?gxo19⟩) (by assumption) ?gqo19
    case gxo19 => (intro W9 hW9; have hq := conv_low (HL3.out.below hW9); rw [HSB.out] at hq; first | (go_simp; done) | (go_simp; with_reducible rfl))
    simp only [Act.put, List.getElem_toArray, List.getElem_cons_succ, List.getElem_cons_zero, List.setIfInBounds_toArray, List.set_cons_zero, List.set_cons_succ]
    refine goes_one (i := 22) (by kernel_rfl) rfl (fun K9 hK9 => ?_)
    go_simp
    with_reducible refine (rlows_any rw_ k _ HRW.out HK.out).mono ?_
    rintro e wd ⟨L4, rfl, _, HL4, HB4⟩
    have hAnwd := hHeld.trans ((HB4.out).mono hHeld.size)
    refine hK9.out _ _ (fun _ => hAnwd) (fun _ => ?_)
    clear hK9 K9 hHeld
    refine Goes.more (S2 := fun W => Below wd.heap.size wd W) (fun W h => hAnwd.trans (h.mono hAnwd.size)) ?_
    have hHeld := Below.refl wd.heap.size wd
    refine goes_take0 (i := 23) (v := .string sB) rfl (by kernel_rfl) (by kernel_rfl) (by kernel_rfl) rfl (fun _ _ _ h => h) (Or.inl ⟨by rfl, ?gxo20⟩) (by assumption) ?gqo20
    case gxo20 => (intro W9 hW9; have hq := conv_low (HL4.out.below hW9); rw [HSB.out] at hq; first | (go_simp; done) | (go_simp; with_reducible rfl))
    simp only [Act.put, List.getElem_toArray, List.getElem_cons_succ, List.getElem_cons_zero, List.setIfInBounds_toArray, List.set_cons_zero, List.set_cons_succ]
    refine goes_take0 (i := 24) (v := .bool true) rfl (by kernel_rfl) (by kernel_rfl) (by kernel_rfl) rfl (fun _ _ _ h => h) (Or.inl ⟨by rfl, ?gxo21⟩) (by assumption) ?gqo21
    case gxo21 => (intro W9 _; first | (go_simp; done) | (go_simp; with_reducible rfl))
    simp only [Act.put, List.getElem_toArray, List.getElem_cons_succ, List.getElem_cons_zero, List.setIfInBounds_toArray, List.set_cons_zero, List.set_cons_succ]
    refine goes_take0 (i := 25) (v := ?gwo22) rfl (by kernel_rfl) (by kernel_rfl) (by kernel_rfl) rfl (fun _ _ _ h => h) (Or.inl ⟨by rfl, ?gxo22⟩) (by assumption) ?gqo22
    case gxo22 => (intro W9 _; first | (go_simp; done) | (go_simp; with_reducible rfl))
    simp only [Act.put, List.getElem_toArray, List.getElem_cons_succ, List.getElem_cons_zero, List.setIfInBounds_toArray, List.set_cons_zero, List.set_cons_succ]
    refine goes_take0 (i := 26) (v := ?gwo23) rfl (by kernel_rfl) (by kernel_rfl) (by kernel_rfl) rfl (fun _ _ _ h => h) (Or.inl ⟨by rfl, ?gxo23⟩) (by assumption) ?gqo23
    case gxo23 => (intro W9 _; first | (go_simp; done) | (go_simp; with_reducible rfl))
    simp only [Act.put, List.getElem_toArray, List.getElem_cons_succ, List.getElem_cons_zero, List.setIfInBounds_toArray, List.set_cons_zero, List.set_cons_succ]
    refine goes_take0 (i := 27) (v := ?gwo24) rfl (by kernel_rfl) (by kernel_rfl) (by kernel_rfl) rfl (fun _ _ _ h => h) (Or.inl ⟨by rfl, ?gxo24⟩) (by assumption) ?gqo24
    case gxo24 => (intro W9 _; first | (go_simp; done) | (go_simp; with_reducible rfl))
    simp only [Act.put, List.getElem_toArray, List.getElem_cons_succ, List.getElem_cons_zero, List.setIfInBounds_toArray, List.set_cons_zero, List.set_cons_succ]
    refine goes_take0 (i := 29) (v := ?gwo25) rfl (by kernel_rfl) (by kernel_rfl) (by kernel_rfl) rfl (fun _ _ _ h => h) (Or.inl ⟨by rfl, ?gxo25⟩) (by assumption) ?gqo25
    case gxo25 => (intro W9 _; first | (go_simp; done) | (go_simp; with_reducible rfl))
    simp only [Act.put, List.getElem_toArray, List.getElem_cons_succ, List.getElem_cons_zero, List.setIfInBounds_toArray, List.set_cons_zero, List.set_cons_succ]
    have HBD := Lib.hid (HBW8.out.trans (((hAnwa.trans (hAnwb.mono hAnwa.size)).trans ((hAnwc.trans (hAnwd.mono hAnwc.size)).mono (hAnwa.trans (hAnwb.mono hAnwa.size)).size)).mono (by rw [← HB.out]; exact HBW8.out.size)))
    refine goes_one (i := 28) (by kernel_rfl) rfl (fun K9 hK9 => ?_)
    go_simp
    with_reducible refine (HTA.out _ (HBD.out.trans (hHeld.mono (by rw [← HB.out]; exact HBD.out.size)))).mono ?_
    rintro e we ⟨u1, vs1, rfl, hr1, hb1⟩
    have hAnwe := hHeld.trans ((hb1.out).mono hHeld.size)
    refine hK9.out _ _ (fun _ => hAnwe) (fun _ => ?_)
    clear hK9 K9 hHeld
    refine Goes.more (S2 := fun W => Below we.heap.size we W) (fun W h => hAnwe.trans (h.mono hAnwe.size)) ?_
    have hHeld := Below.refl we.heap.size we
    have HT1 := Lib.hid hr1.out.tab
    have HBE := Lib.hid (HBD.out.trans (hAnwe.mono (by rw [← HB.out]; exact HBD.out.size)))
    refine goes_one (i := 30) (by kernel_rfl) rfl (fun K9 hK9 => ?_)
    go_simp
    with_reducible refine (HTR.out _ (HBE.out.trans (hHeld.mono (by rw [← HB.out]; exact HBE.out.size)))).mono ?_
    rintro e wf ⟨u2, vs2, rfl, hr2, hb2⟩
    have hAnwf := hHeld.trans ((hb2.out).mono hHeld.size)
    refine hK9.out _ _ (fun _ => hAnwf) (fun _ => ?_)
    clear hK9 K9 hHeld
    refine Goes.more (S2 := fun W => Below wf.heap.size wf W) (fun W h => hAnwf.trans (h.mono hAnwf.size)) ?_
    have hHeld := Below.refl wf.heap.size wf
    have HT2 := Lib.hid hr2.out.tab
    have HT1f := Lib.hid (HT1.out.below hAnwf)
    have HBF := Lib.hid (HBE.out.trans (hAnwf.mono (by rw [← HB.out]; exact HBE.out.size)))
    refine goes_one (i := 31) (by kernel_rfl) rfl (fun K9 hK9 => ?_)
    go_simp
    with_reducible refine (rsame10_any u1 u2 T T _ (HT1f.out.below hHeld) (HT2.out.below hHeld) HOK.out HOK.out).mono ?_
    rintro e wg ⟨rfl, q, hq⟩
    have hbq : Below wf.heap.size wf wg := by rw [hq]; exact below_drewN _ q
    have hAnwg := hHeld.trans ((hbq).mono hHeld.size)
    refine hK9.out _ _ (fun _ => hAnwg) (fun _ => ?_)
    clear hK9 K9 hHeld
    refine Goes.more (S2 := fun W => Below wg.heap.size wg W) (fun W h => hAnwg.trans (h.mono hAnwg.size)) ?_
    have hHeld := Below.refl wg.heap.size wg
    rw [show decide (T = T) = true from decide_eq_true rfl]
    have HBG := Lib.hid (HBF.out.trans (hAnwg.mono (by rw [← HB.out]; exact HBF.out.size)))
    refine goes_take0 (i := 32) (v := ?gwo26) rfl (by kernel_rfl) (by kernel_rfl) (by kernel_rfl) rfl (fun _ _ _ h => h) (Or.inl ⟨by rfl, ?gxo26⟩) (by assumption) ?gqo26
    case gxo26 => (intro W9 _; first | (go_simp; done) | (go_simp; with_reducible rfl))
    simp only [Act.put, List.getElem_toArray, List.getElem_cons_succ, List.getElem_cons_zero, List.setIfInBounds_toArray, List.set_cons_zero, List.set_cons_succ]
    refine goes_take0 (i := 33) (v := ?gwo27) rfl (by kernel_rfl) (by kernel_rfl) (by kernel_rfl) rfl (fun _ _ _ h => h) (Or.inl ⟨by rfl, ?gxo27⟩) (by assumption) ?gqo27
    case gxo27 => (intro W9 _; first | (go_simp; done) | (go_simp; with_reducible rfl))
    simp only [Act.put, List.getElem_toArray, List.getElem_cons_succ, List.getElem_cons_zero, List.setIfInBounds_toArray, List.set_cons_zero, List.set_cons_succ]
    refine goes_done (by kernel_rfl) ?_ _
    go_wp2
    go_ret
    exact ⟨rfl, HBG.out⟩
  · have d1 : decide ((m.length : Int) > 12) = true := decide_eq_true (by omega)
    have d2 : decide ((12 : Int) < m.length) = true := decide_eq_true (by omega)
    have d3 : decide (12 < m.length) = true := decide_eq_true (by omega)
    clear h12
    go_enter Try.func3, Try.ntmps3
    go_wp2_with (go_at_call 7; (with_reducible refine (awake_any _).mono ?_); rintro e w2 ⟨rfl, hb2⟩; have HBW2 := Lib.hid (HBW.out.trans (hb2.mono (by rw [← HB.out]; exact HBW.out.size))); clear hb2)
    go_ret
    exact ⟨rfl, HBW2.out⟩
end Go.Proofs.Ytiikmpgadmmjeaa
