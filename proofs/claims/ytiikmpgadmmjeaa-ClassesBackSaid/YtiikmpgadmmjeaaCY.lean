/- The walk of ClassesBack. -/
import Derived.Test.YtiikmpgadmmjeaaCV
import Derived.Test.YtiikmpgadmmjeaaCW
import Derived.Test.YtiikmpgadmmjeaaCJ
import Derived.Test.YtiikmpgadmmjeaaCN
set_option maxRecDepth 100000
namespace Go.Proofs.Ytiikmpgadmmjeaa
open Go.RowKit
attribute [local go_sem] zero_u8s

/-- Few bytes, again and again. -/
def clsF (few : List Nat) (b : Nat) : Nat := (few[b % few.length]?).getD 0
theorem clsF_nil (b : Nat) : clsF [] b = 0 := rfl
theorem clsF_at {few : List Nat} {b : Nat} (h : b % few.length < few.length) : clsF few b = few[b % few.length] := by unfold clsF; rw [List.getElem?_eq_getElem h]; rfl
theorem clsF_lt {few : List Nat} (h : ∀ x ∈ few, x < 256) (b : Nat) : clsF few b < 256 := by
  by_cases hl : b % few.length < few.length
  · rw [clsF_at hl]; exact h _ (List.getElem_mem hl)
  · unfold clsF; rw [List.getElem?_eq_none (by omega)]; show 0 < 256; omega
theorem ends_103 {w : World} : EndsAt (w.alloc (.cells #[.int .u64 1, .int .u64 0, .int .u64 3] 34)) (.slice (some ⟨w.heap.size, 0, none⟩) 3 3) [1, 0, 3] := by
  have h := heap_alloc_new w (.cells #[.int .u64 1, .int .u64 0, .int .u64 3] 34)
  refine ⟨_, 3, rfl, fun i hi => ⟨w.heap.size, 0, rfl, ?_⟩⟩
  have hi3 : i < 3 := hi
  match i, hi3 with
  | 0, _ => exact (cell_of_row _ _ 0 _ _ _ h).trans rfl
  | 1, _ => exact (cell_of_row _ _ 1 _ _ _ h).trans rfl
  | 2, _ => exact (cell_of_row _ _ 2 _ _ _ h).trans rfl
theorem back_may {T : List (List Int)} (cls : Nat → Nat) (es : List Nat) : ∀ s ∈ backS T cls es, s.arcs.length < 9223372036854775808 := by
  intro s hs
  obtain ⟨i, _, rfl⟩ := List.mem_map.1 hs
  have := arcsUp_len (tgtT T i cls) 256
  show (arcsUp _ 256).length < _
  omega
set_option linter.unusedSimpArgs false in
set_option maxHeartbeats 8000000 in
theorem back_law (vF vT : Value) (few : List Nat) (T : List (List Int)) (s : ByteArray) (w : World) (hF : ∃ a c, vF = .slice a few.length c ∧ ∀ i (h : i < few.length), ∃ b o, a = some ⟨b, o, none⟩ ∧ w.cell? ⟨b, o + i, none⟩ = some (.int .u8 (few[i] : Nat))) (hfl : few.length < 9223372036854775808) (hfb : ∀ x ∈ few, x < 256) (hT : TabAt w vT T) (hok : TabOk T) :
    Calls Try.prog 4 #[vF, vT, .string s] w fun e w' => e = .returned (.bool true) ∧ Below w.heap.size w w' := by
  have mixed : Try.prog.follows .mixedOrders = true := by kernel_rfl
  obtain ⟨B0, hB⟩ : ∃ B, w.heap.size = B := ⟨_, rfl⟩
  have HB := Lib.hid hB
  have HT := Lib.hid (fun W (hW : Below B0 w W) => hT.below (by rw [hB]; exact hW))
  obtain ⟨aF, cF, rfl, hF⟩ := hF
  obtain ⟨aT, cT, rfl⟩ := hT.len
  have HF := Lib.hid hF
  have HOK := Lib.hid hok
  have HCL := Lib.hid (fun b (_ : b < 256) => clsF_lt hfb b)
  have hTl := hok.1
  clear hF hT hok hfb
  rw [hB]
  by_cases h12 : T.length ≤ 12
  · have d1 : decide ((T.length : Int) > 12) = false := decide_eq_false (by omega)
    have d2 : decide ((12 : Int) < T.length) = false := decide_eq_false (by omega)
    have d3 : decide (12 < T.length) = false := decide_eq_false (by omega)
    by_cases h40 : s.size ≤ 40
    · have e1 : decide ((s.size : Int) > 40) = false := decide_eq_false (by omega)
      have e2 : decide ((40 : Int) < s.size) = false := decide_eq_false (by omega)
      have e3 : decide (40 < s.size) = false := decide_eq_false (by omega)
      have HT12 := Lib.hid h12
      have HS40 := Lib.hid h40
      clear h12 h40
      obtain ⟨I1, hI1⟩ : ∃ I1, U8s (fun _ => 0) = I1 := ⟨_, rfl⟩
      have HI1 := Lib.hid hI1
      have hz := zero_u8s
      rw [hI1] at hz
      clear hI1
      go_enter Try.func4, Try.ntmps4
      go_wp2_with (go_at_call 7; (with_reducible refine (awake_any _).mono ?_); rintro e w2 ⟨rfl, hb2⟩; have HBW2 : Hid (Below B0 w w2) := Lib.hid (by rw [← HB.out]; exact hb2); clear hb2)
      obtain ⟨n8, hn8⟩ : ∃ n8, w2.heap.size = n8 := ⟨_, rfl⟩
      obtain ⟨w3, hw3⟩ : ∃ w3, w2.alloc (.cells I1 24) = w3 := ⟨_, rfl⟩
      have HC3 : Hid (UBlk w3 n8 fun _ => 0) := Lib.hid (by rw [← hw3, ← HI1.out, ← hn8]; exact UBlk.new w2 _)
      have hb23 : Below w2.heap.size w2 w3 := by rw [← hw3]; exact new_one w2 _
      have hB8 : B0 ≤ n8 := by have := HBW2.out.size; rw [HB.out] at this; omega
      have HB3 : Hid (Below B0 w w3) := Lib.hid (HBW2.out.trans (hb23.mono (by omega)))
      have HB8 := Lib.hid hB8
      rw [hw3, hn8]
      clear hw3 hb23 hz HBW2 hB8 hn8
      go_loopw [9] (fun z wr => ∃ k : Nat, z = .int .i64 k ∧ k ≤ 256 ∧ Hid (UBlk wr n8 fun i => if i < k then clsF few i else 0) ∧ Hid (Below B0 w wr)) (fun z _ => 256 - (intOf z).toNat)
      case atStart => exact ⟨0, rfl, Nat.zero_le _, Lib.hid (HC3.out.congr fun i _ => by rw [if_neg (by omega)]), HB3⟩
      case round =>
        clear HC3 HB3
        obtain ⟨k, rfl, hk, HC, HBW⟩ := hrel
        by_cases hgo : k < 256 ∧ 0 < few.length
        · obtain ⟨hlt, hpos⟩ := hgo
          have f1 : decide ((k : Int) < 256) = true := decide_eq_true (by omega)
          have f2 : decide ((few.length : Int) > 0) = true := decide_eq_true (by omega)
          have f3 : decide ((0 : Int) < few.length) = true := decide_eq_true (by omega)
          have f4 : decide (0 < few.length) = true := decide_eq_true hpos
          have hki : (k : Int) < 256 := by omega
          have hmod : k % few.length < few.length := Nat.mod_lt _ hpos
          have HCA := Lib.hid (clsF_at hmod)
          obtain ⟨bF, oF, rfl, c0⟩ := HF.out _ hmod
          replace c0 := cell_below (by rw [HB.out]; exact HBW.out) c0
          obtain ⟨r, hr⟩ : ∃ r, k % few.length = r := ⟨_, rfl⟩
          have hri : (k : Int).tmod (few.length : Int) = (r : Nat) := by rw [← hr]; rfl
          have hri2 : (k : Int) % (few.length : Int) = (r : Nat) := by rw [← hr]; omega
          simp only [hr] at c0 HCA hmod
          have hrl : (r : Int) < few.length := by omega
          have hfz : wr.frozen? ⟨n8, k, none⟩ = false := HC.out.frozen
          have c1 := HC.out.cell hlt
          generalize few[r] = x at *
          have hne : ¬ (few.length : Int) = 0 := by omega
          have hne2 : ((few.length : Int) == 0) = false := by rw [beq_eq_false_iff_ne]; omega
          clear hpos hr
          go_wp2
          exact ⟨⟨k + 1, rfl, hlt, Lib.hid (HC.out.set (k := k) (by rw [if_pos (by omega)]; exact HCA.out) (fun i _ hne => by
            by_cases h : i < k
            · rw [if_pos h, if_pos (by omega)]
            · rw [if_neg h, if_neg (by omega)])), Lib.hid (HBW.out.setCell (by show B0 ≤ n8; exact HB8.out) _)⟩, by simp only [intOf]; omega⟩
        · have HCF : Hid (UBlk wr n8 (clsF few)) := Lib.hid (HC.out.congr fun i hi => by
            by_cases h : i < k
            · rw [if_pos h]
            · rw [if_neg h]
              have hz : few.length = 0 := by omega
              obtain rfl : few = [] := List.eq_nil_of_length_eq_zero hz
              rfl)
          obtain ⟨cl, hcl⟩ : ∃ cl, clsF few = cl := ⟨_, rfl⟩
          rw [hcl] at HCF HCL
          clear hcl HC
          by_cases hk2 : k = 256
          · subst hk2
            have f1 : decide (((256 : Nat) : Int) < 256) = false := by simp
            clear hgo
            go_upto_region 12 with fail
            obtain ⟨w4, hw4⟩ : ∃ w4, wr.alloc (.cells #[.int .u64 1, .int .u64 0, .int .u64 3] 34) = w4 := ⟨_, rfl⟩
            have hb4 : Below wr.heap.size wr w4 := by rw [← hw4]; exact new_one wr _
            have HC4 := Lib.hid (HCF.out.below hb4)
            obtain ⟨n4, hn4⟩ : ∃ n4, wr.heap.size = n4 := ⟨_, rfl⟩
            have HE4 : Hid (EndsAt w4 (.slice (some ⟨n4, 0, none⟩) 3 3) [1, 0, 3]) := Lib.hid (by rw [← hw4, ← hn4]; exact ends_103)
            have HBW4 := Lib.hid (HBW.out.trans (hb4.mono (by rw [← HB.out]; exact HBW.out.size)))
            have HT4 := Lib.hid (HT.out w4 HBW4.out)
            obtain ⟨M, hM⟩ : ∃ M, backS T cl [1, 0, 3] = M := ⟨_, rfl⟩
            have HMY : Hid (∀ s ∈ M, s.arcs.length < 9223372036854775808) := Lib.hid (by rw [← hM]; exact back_may cl _)
            have HML : Hid (M.length < 9223372036854775808) := Lib.hid (by rw [← hM]; simp [backS]; exact hTl)
            have HBK := Lib.hid (fun W hW => back10_any cl _ _ T [1, 0, 3] W HOK.out (by have := HT12.out; omega) HCL.out (HT4.out.below hW) (HE4.out.below hW))
            have HRB := Lib.hid (fun W hW => rback10_any cl _ _ T [1, 0, 3] W HOK.out (by have := HT12.out; omega) HCL.out (HT4.out.below hW) (HE4.out.below hW))
            have HRU := Lib.hid (fun W hW => trun_any cl _ T s W (HT4.out.below hW) HOK.out HCL.out (by have := HS40.out; omega))
            have HRR := Lib.hid (fun W hW => rrun10_any cl _ T s W (HT4.out.below hW) HOK.out HCL.out (by have := HS40.out; omega))
            rw [hM] at HBK HRB
            obtain ⟨x, hx⟩ : ∃ x, runT T cl (bytesOf s) = x := ⟨_, rfl⟩
            rw [hx] at HRU HRR
            rw [hw4, hn4]
            clear hw4 hb4 hn4 hM hx HCF
            refine region_goes 21 21 rfl (fun W => Below w4.heap.size w4 W) mixed (Below.refl _ _).drew (fun hHeld => ?_)
            refine goes_take0 (i := 0) (v := .agg (U8s cl)) rfl (by kernel_rfl) (by kernel_rfl) (by kernel_rfl) rfl (fun _ _ _ h => h) (Or.inl ⟨by rfl, ?gxb1⟩) (by assumption) ?gqb1
            case gxb1 => (intro W9 hW9; exact exec_load_u8c ((HC4.out).below hW9) (.tmp 8) rfl rfl)
            simp only [Act.put, List.getElem_toArray, List.getElem_cons_succ, List.getElem_cons_zero, List.setIfInBounds_toArray, List.set_cons_zero, List.set_cons_succ]
            refine goes_take0 (i := 1) (v := ?gwb2) rfl (by kernel_rfl) (by kernel_rfl) (by kernel_rfl) rfl (fun _ _ _ h => h) (Or.inl ⟨by rfl, ?gxb2⟩) (by assumption) ?gqb2
            case gxb2 => (intro W9 _; first | (go_simp; done) | (go_simp; with_reducible rfl))
            simp only [Act.put, List.getElem_toArray, List.getElem_cons_succ, List.getElem_cons_zero, List.setIfInBounds_toArray, List.set_cons_zero, List.set_cons_succ]
            refine goes_take0 (i := 2) (v := ?gwb3) rfl (by kernel_rfl) (by kernel_rfl) (by kernel_rfl) rfl (fun _ _ _ h => h) (Or.inl ⟨by rfl, ?gxb3⟩) (by assumption) ?gqb3
            case gxb3 => (intro W9 _; first | (go_simp; done) | (go_simp; with_reducible rfl))
            simp only [Act.put, List.getElem_toArray, List.getElem_cons_succ, List.getElem_cons_zero, List.setIfInBounds_toArray, List.set_cons_zero, List.set_cons_succ]
            refine goes_take0 (i := 4) (v := .agg (U8s cl)) rfl (by kernel_rfl) (by kernel_rfl) (by kernel_rfl) rfl (fun _ _ _ h => h) (Or.inl ⟨by rfl, ?gxb4⟩) (by assumption) ?gqb4
            case gxb4 => (intro W9 hW9; exact exec_load_u8c ((HC4.out).below hW9) (.tmp 8) rfl rfl)
            simp only [Act.put, List.getElem_toArray, List.getElem_cons_succ, List.getElem_cons_zero, List.setIfInBounds_toArray, List.set_cons_zero, List.set_cons_succ]
            refine goes_take0 (i := 5) (v := ?gwb5) rfl (by kernel_rfl) (by kernel_rfl) (by kernel_rfl) rfl (fun _ _ _ h => h) (Or.inl ⟨by rfl, ?gxb5⟩) (by assumption) ?gqb5
            case gxb5 => (intro W9 _; first | (go_simp; done) | (go_simp; with_reducible rfl))
            simp only [Act.put, List.getElem_toArray, List.getElem_cons_succ, List.getElem_cons_zero, List.setIfInBounds_toArray, List.set_cons_zero, List.set_cons_succ]
            refine goes_take0 (i := 6) (v := ?gwb6) rfl (by kernel_rfl) (by kernel_rfl) (by kernel_rfl) rfl (fun _ _ _ h => h) (Or.inl ⟨by rfl, ?gxb6⟩) (by assumption) ?gqb6
            case gxb6 => (intro W9 _; first | (go_simp; done) | (go_simp; with_reducible rfl))
            simp only [Act.put, List.getElem_toArray, List.getElem_cons_succ, List.getElem_cons_zero, List.setIfInBounds_toArray, List.set_cons_zero, List.set_cons_succ]
            refine goes_one (i := 3) (by kernel_rfl) rfl (fun K9 hK9 => ?_)
            go_simp
            with_reducible refine (HBK.out _ hHeld).mono ?_
            rintro e wa ⟨v5, vs5, rfl, hr5, hb5⟩
            have hAnwa := hHeld.trans ((hb5.out).mono hHeld.size)
            refine hK9.out _ _ (fun _ => hAnwa) (fun _ => ?_)
            clear hK9 K9 hHeld
            refine Goes.more (S2 := fun W => Below wa.heap.size wa W) (fun W h => hAnwa.trans (h.mono hAnwa.size)) ?_
            have hHeld := Below.refl wa.heap.size wa
            have HMA := Lib.hid hr5.out.mach
            refine goes_one (i := 7) (by kernel_rfl) rfl (fun K9 hK9 => ?_)
            go_simp
            with_reducible refine (HRB.out _ (hAnwa.trans (hHeld.mono hAnwa.size))).mono ?_
            rintro e wb ⟨v6, vs6, rfl, hr6, hb6⟩
            have hAnwb := hHeld.trans ((hb6.out).mono hHeld.size)
            refine hK9.out _ _ (fun _ => hAnwb) (fun _ => ?_)
            clear hK9 K9 hHeld
            refine Goes.more (S2 := fun W => Below wb.heap.size wb W) (fun W h => hAnwb.trans (h.mono hAnwb.size)) ?_
            have hHeld := Below.refl wb.heap.size wb
            have HMB := Lib.hid hr6.out.mach
            have HMA2 := Lib.hid (HMA.out.below hAnwb)
            refine goes_one (i := 8) (by kernel_rfl) rfl (fun K9 hK9 => ?_)
            go_simp
            with_reducible refine (rsame07_any v5 v6 M M _ (HMA2.out.below hHeld) (HMB.out.below hHeld) HML.out HMY.out HMY.out).mono ?_
            rintro e wc ⟨rfl, hb7⟩
            have hAnwc := hHeld.trans ((hb7).mono hHeld.size)
            refine hK9.out _ _ (fun _ => hAnwc) (fun _ => ?_)
            clear hK9 K9 hHeld
            refine Goes.more (S2 := fun W => Below wc.heap.size wc W) (fun W h => hAnwc.trans (h.mono hAnwc.size)) ?_
            have hHeld := Below.refl wc.heap.size wc
            rw [show sameB M M = true from sameB_true.2 rfl]
            have HAC := Lib.hid (hAnwa.trans ((hAnwb.trans (hAnwc.mono hAnwb.size)).mono hAnwa.size))
            refine goes_take0 (i := 9) (v := ?gwb7) rfl (by kernel_rfl) (by kernel_rfl) (by kernel_rfl) rfl (fun _ _ _ h => h) (Or.inl ⟨by rfl, ?gxb7⟩) (by assumption) ?gqb7
            case gxb7 => (intro W9 _; first | (go_simp; done) | (go_simp; with_reducible rfl))
            simp only [Act.put, List.getElem_toArray, List.getElem_cons_succ, List.getElem_cons_zero, List.setIfInBounds_toArray, List.set_cons_zero, List.set_cons_succ]
            refine goes_take0 (i := 10) (v := .agg (U8s cl)) rfl (by kernel_rfl) (by kernel_rfl) (by kernel_rfl) rfl (fun _ _ _ h => h) (Or.inl ⟨by rfl, ?gxb8⟩) (by assumption) ?gqb8
            case gxb8 => (intro W9 hW9; exact exec_load_u8c ((HC4.out.below HAC.out).below hW9) (.tmp 8) rfl rfl)
            simp only [Act.put, List.getElem_toArray, List.getElem_cons_succ, List.getElem_cons_zero, List.setIfInBounds_toArray, List.set_cons_zero, List.set_cons_succ]
            refine goes_take0 (i := 11) (v := ?gwb9) rfl (by kernel_rfl) (by kernel_rfl) (by kernel_rfl) rfl (fun _ _ _ h => h) (Or.inl ⟨by rfl, ?gxb9⟩) (by assumption) ?gqb9
            case gxb9 => (intro W9 _; first | (go_simp; done) | (go_simp; with_reducible rfl))
            simp only [Act.put, List.getElem_toArray, List.getElem_cons_succ, List.getElem_cons_zero, List.setIfInBounds_toArray, List.set_cons_zero, List.set_cons_succ]
            refine goes_take0 (i := 12) (v := ?gwb10) rfl (by kernel_rfl) (by kernel_rfl) (by kernel_rfl) rfl (fun _ _ _ h => h) (Or.inl ⟨by rfl, ?gxb10⟩) (by assumption) ?gqb10
            case gxb10 => (intro W9 _; first | (go_simp; done) | (go_simp; with_reducible rfl))
            simp only [Act.put, List.getElem_toArray, List.getElem_cons_succ, List.getElem_cons_zero, List.setIfInBounds_toArray, List.set_cons_zero, List.set_cons_succ]
            refine goes_take0 (i := 14) (v := .agg (U8s cl)) rfl (by kernel_rfl) (by kernel_rfl) (by kernel_rfl) rfl (fun _ _ _ h => h) (Or.inl ⟨by rfl, ?gxb11⟩) (by assumption) ?gqb11
            case gxb11 => (intro W9 hW9; exact exec_load_u8c ((HC4.out.below HAC.out).below hW9) (.tmp 8) rfl rfl)
            simp only [Act.put, List.getElem_toArray, List.getElem_cons_succ, List.getElem_cons_zero, List.setIfInBounds_toArray, List.set_cons_zero, List.set_cons_succ]
            refine goes_take0 (i := 15) (v := ?gwb12) rfl (by kernel_rfl) (by kernel_rfl) (by kernel_rfl) rfl (fun _ _ _ h => h) (Or.inl ⟨by rfl, ?gxb12⟩) (by assumption) ?gqb12
            case gxb12 => (intro W9 _; first | (go_simp; done) | (go_simp; with_reducible rfl))
            simp only [Act.put, List.getElem_toArray, List.getElem_cons_succ, List.getElem_cons_zero, List.setIfInBounds_toArray, List.set_cons_zero, List.set_cons_succ]
            refine goes_take0 (i := 16) (v := ?gwb13) rfl (by kernel_rfl) (by kernel_rfl) (by kernel_rfl) rfl (fun _ _ _ h => h) (Or.inl ⟨by rfl, ?gxb13⟩) (by assumption) ?gqb13
            case gxb13 => (intro W9 _; first | (go_simp; done) | (go_simp; with_reducible rfl))
            simp only [Act.put, List.getElem_toArray, List.getElem_cons_succ, List.getElem_cons_zero, List.setIfInBounds_toArray, List.set_cons_zero, List.set_cons_succ]
            refine goes_one (i := 13) (by kernel_rfl) rfl (fun K9 hK9 => ?_)
            go_simp
            with_reducible refine (HRU.out _ (HAC.out.trans (hHeld.mono HAC.out.size))).mono ?_
            rintro e wd ⟨rfl, hb8⟩
            have hAnwd := hHeld.trans ((hb8).mono hHeld.size)
            refine hK9.out _ _ (fun _ => hAnwd) (fun _ => ?_)
            clear hK9 K9 hHeld
            refine Goes.more (S2 := fun W => Below wd.heap.size wd W) (fun W h => hAnwd.trans (h.mono hAnwd.size)) ?_
            have hHeld := Below.refl wd.heap.size wd
            have HAD := Lib.hid (HAC.out.trans (hAnwd.mono HAC.out.size))
            refine goes_one (i := 17) (by kernel_rfl) rfl (fun K9 hK9 => ?_)
            go_simp
            with_reducible refine (HRR.out _ (HAD.out.trans (hHeld.mono HAD.out.size))).mono ?_
            rintro e we ⟨rfl, hb9⟩
            have hAnwe := hHeld.trans ((hb9).mono hHeld.size)
            refine hK9.out _ _ (fun _ => hAnwe) (fun _ => ?_)
            clear hK9 K9 hHeld
            refine Goes.more (S2 := fun W => Below we.heap.size we W) (fun W h => hAnwe.trans (h.mono hAnwe.size)) ?_
            have hHeld := Below.refl we.heap.size we
            have HAE := Lib.hid (HBW4.out.trans ((HAD.out.trans (hAnwe.mono HAD.out.size)).mono (by rw [← HB.out]; exact HBW4.out.size)))
            refine goes_take0 (i := 18) (v := .bool true) rfl (by kernel_rfl) (by kernel_rfl) (by kernel_rfl) rfl (fun _ _ _ h => h) (Or.inl ⟨by rfl, ?gxb14⟩) (by assumption) ?gqb14
            case gxb14 => (intro W9 _; first | (go_simp; done) | (go_simp; with_reducible rfl))
            simp only [Act.put, List.getElem_toArray, List.getElem_cons_succ, List.getElem_cons_zero, List.setIfInBounds_toArray, List.set_cons_zero, List.set_cons_succ]
            refine goes_take0 (i := 19) (v := ?gwb15) rfl (by kernel_rfl) (by kernel_rfl) (by kernel_rfl) rfl (fun _ _ _ h => h) (Or.inl ⟨by rfl, ?gxb15⟩) (by assumption) ?gqb15
            case gxb15 => (intro W9 _; first | (go_simp; done) | (go_simp; with_reducible rfl))
            simp only [Act.put, List.getElem_toArray, List.getElem_cons_succ, List.getElem_cons_zero, List.setIfInBounds_toArray, List.set_cons_zero, List.set_cons_succ]
            refine goes_take0 (i := 20) (v := ?gwb16) rfl (by kernel_rfl) (by kernel_rfl) (by kernel_rfl) rfl (fun _ _ _ h => h) (Or.inl ⟨by rfl, ?gxb16⟩) (by assumption) ?gqb16
            case gxb16 => (intro W9 _; first | (go_simp; done) | (go_simp; with_reducible rfl))
            simp only [Act.put, List.getElem_toArray, List.getElem_cons_succ, List.getElem_cons_zero, List.setIfInBounds_toArray, List.set_cons_zero, List.set_cons_succ]
            refine goes_done (by kernel_rfl) ?_ _
            go_wp2
            go_ret
            exact ⟨rfl, HAE.out⟩
          · have f1 : decide ((k : Int) < 256) = true := decide_eq_true (by omega)
            have hf0 : few.length = 0 := by omega
            have f2 : decide ((few.length : Int) > 0) = false := decide_eq_false (by omega)
            have f3 : decide ((0 : Int) < few.length) = false := decide_eq_false (by omega)
            have f4 : decide (0 < few.length) = false := decide_eq_false (by omega)
            clear hgo hk2 hf0
            go_upto_region 12 with fail
            obtain ⟨w4, hw4⟩ : ∃ w4, wr.alloc (.cells #[.int .u64 1, .int .u64 0, .int .u64 3] 34) = w4 := ⟨_, rfl⟩
            have hb4 : Below wr.heap.size wr w4 := by rw [← hw4]; exact new_one wr _
            have HC4 := Lib.hid (HCF.out.below hb4)
            obtain ⟨n4, hn4⟩ : ∃ n4, wr.heap.size = n4 := ⟨_, rfl⟩
            have HE4 : Hid (EndsAt w4 (.slice (some ⟨n4, 0, none⟩) 3 3) [1, 0, 3]) := Lib.hid (by rw [← hw4, ← hn4]; exact ends_103)
            have HBW4 := Lib.hid (HBW.out.trans (hb4.mono (by rw [← HB.out]; exact HBW.out.size)))
            have HT4 := Lib.hid (HT.out w4 HBW4.out)
            obtain ⟨M, hM⟩ : ∃ M, backS T cl [1, 0, 3] = M := ⟨_, rfl⟩
            have HMY : Hid (∀ s ∈ M, s.arcs.length < 9223372036854775808) := Lib.hid (by rw [← hM]; exact back_may cl _)
            have HML : Hid (M.length < 9223372036854775808) := Lib.hid (by rw [← hM]; simp [backS]; exact hTl)
            have HBK := Lib.hid (fun W hW => back10_any cl _ _ T [1, 0, 3] W HOK.out (by have := HT12.out; omega) HCL.out (HT4.out.below hW) (HE4.out.below hW))
            have HRB := Lib.hid (fun W hW => rback10_any cl _ _ T [1, 0, 3] W HOK.out (by have := HT12.out; omega) HCL.out (HT4.out.below hW) (HE4.out.below hW))
            have HRU := Lib.hid (fun W hW => trun_any cl _ T s W (HT4.out.below hW) HOK.out HCL.out (by have := HS40.out; omega))
            have HRR := Lib.hid (fun W hW => rrun10_any cl _ T s W (HT4.out.below hW) HOK.out HCL.out (by have := HS40.out; omega))
            rw [hM] at HBK HRB
            obtain ⟨x, hx⟩ : ∃ x, runT T cl (bytesOf s) = x := ⟨_, rfl⟩
            rw [hx] at HRU HRR
            rw [hw4, hn4]
            clear hw4 hb4 hn4 hM hx HCF
            refine region_goes 21 21 rfl (fun W => Below w4.heap.size w4 W) mixed (Below.refl _ _).drew (fun hHeld => ?_)
            refine goes_take0 (i := 0) (v := .agg (U8s cl)) rfl (by kernel_rfl) (by kernel_rfl) (by kernel_rfl) rfl (fun _ _ _ h => h) (Or.inl ⟨by rfl, ?gxc1⟩) (by assumption) ?gqc1
            case gxc1 => (intro W9 hW9; exact exec_load_u8c ((HC4.out).below hW9) (.tmp 8) rfl rfl)
            simp only [Act.put, List.getElem_toArray, List.getElem_cons_succ, List.getElem_cons_zero, List.setIfInBounds_toArray, List.set_cons_zero, List.set_cons_succ]
            refine goes_take0 (i := 1) (v := ?gwc2) rfl (by kernel_rfl) (by kernel_rfl) (by kernel_rfl) rfl (fun _ _ _ h => h) (Or.inl ⟨by rfl, ?gxc2⟩) (by assumption) ?gqc2
            case gxc2 => (intro W9 _; first | (go_simp; done) | (go_simp; with_reducible rfl))
            simp only [Act.put, List.getElem_toArray, List.getElem_cons_succ, List.getElem_cons_zero, List.setIfInBounds_toArray, List.set_cons_zero, List.set_cons_succ]
            refine goes_take0 (i := 2) (v := ?gwc3) rfl (by kernel_rfl) (by kernel_rfl) (by kernel_rfl) rfl (fun _ _ _ h => h) (Or.inl ⟨by rfl, ?gxc3⟩) (by assumption) ?gqc3
            case gxc3 => (intro W9 _; first | (go_simp; done) | (go_simp; with_reducible rfl))
            simp only [Act.put, List.getElem_toArray, List.getElem_cons_succ, List.getElem_cons_zero, List.setIfInBounds_toArray, List.set_cons_zero, List.set_cons_succ]
            refine goes_take0 (i := 4) (v := .agg (U8s cl)) rfl (by kernel_rfl) (by kernel_rfl) (by kernel_rfl) rfl (fun _ _ _ h => h) (Or.inl ⟨by rfl, ?gxc4⟩) (by assumption) ?gqc4
            case gxc4 => (intro W9 hW9; exact exec_load_u8c ((HC4.out).below hW9) (.tmp 8) rfl rfl)
            simp only [Act.put, List.getElem_toArray, List.getElem_cons_succ, List.getElem_cons_zero, List.setIfInBounds_toArray, List.set_cons_zero, List.set_cons_succ]
            refine goes_take0 (i := 5) (v := ?gwc5) rfl (by kernel_rfl) (by kernel_rfl) (by kernel_rfl) rfl (fun _ _ _ h => h) (Or.inl ⟨by rfl, ?gxc5⟩) (by assumption) ?gqc5
            case gxc5 => (intro W9 _; first | (go_simp; done) | (go_simp; with_reducible rfl))
            simp only [Act.put, List.getElem_toArray, List.getElem_cons_succ, List.getElem_cons_zero, List.setIfInBounds_toArray, List.set_cons_zero, List.set_cons_succ]
            refine goes_take0 (i := 6) (v := ?gwc6) rfl (by kernel_rfl) (by kernel_rfl) (by kernel_rfl) rfl (fun _ _ _ h => h) (Or.inl ⟨by rfl, ?gxc6⟩) (by assumption) ?gqc6
            case gxc6 => (intro W9 _; first | (go_simp; done) | (go_simp; with_reducible rfl))
            simp only [Act.put, List.getElem_toArray, List.getElem_cons_succ, List.getElem_cons_zero, List.setIfInBounds_toArray, List.set_cons_zero, List.set_cons_succ]
            refine goes_one (i := 3) (by kernel_rfl) rfl (fun K9 hK9 => ?_)
            go_simp
            with_reducible refine (HBK.out _ hHeld).mono ?_
            rintro e wa ⟨v5, vs5, rfl, hr5, hb5⟩
            have hAnwa := hHeld.trans ((hb5.out).mono hHeld.size)
            refine hK9.out _ _ (fun _ => hAnwa) (fun _ => ?_)
            clear hK9 K9 hHeld
            refine Goes.more (S2 := fun W => Below wa.heap.size wa W) (fun W h => hAnwa.trans (h.mono hAnwa.size)) ?_
            have hHeld := Below.refl wa.heap.size wa
            have HMA := Lib.hid hr5.out.mach
            refine goes_one (i := 7) (by kernel_rfl) rfl (fun K9 hK9 => ?_)
            go_simp
            with_reducible refine (HRB.out _ (hAnwa.trans (hHeld.mono hAnwa.size))).mono ?_
            rintro e wb ⟨v6, vs6, rfl, hr6, hb6⟩
            have hAnwb := hHeld.trans ((hb6.out).mono hHeld.size)
            refine hK9.out _ _ (fun _ => hAnwb) (fun _ => ?_)
            clear hK9 K9 hHeld
            refine Goes.more (S2 := fun W => Below wb.heap.size wb W) (fun W h => hAnwb.trans (h.mono hAnwb.size)) ?_
            have hHeld := Below.refl wb.heap.size wb
            have HMB := Lib.hid hr6.out.mach
            have HMA2 := Lib.hid (HMA.out.below hAnwb)
            refine goes_one (i := 8) (by kernel_rfl) rfl (fun K9 hK9 => ?_)
            go_simp
            with_reducible refine (rsame07_any v5 v6 M M _ (HMA2.out.below hHeld) (HMB.out.below hHeld) HML.out HMY.out HMY.out).mono ?_
            rintro e wc ⟨rfl, hb7⟩
            have hAnwc := hHeld.trans ((hb7).mono hHeld.size)
            refine hK9.out _ _ (fun _ => hAnwc) (fun _ => ?_)
            clear hK9 K9 hHeld
            refine Goes.more (S2 := fun W => Below wc.heap.size wc W) (fun W h => hAnwc.trans (h.mono hAnwc.size)) ?_
            have hHeld := Below.refl wc.heap.size wc
            rw [show sameB M M = true from sameB_true.2 rfl]
            have HAC := Lib.hid (hAnwa.trans ((hAnwb.trans (hAnwc.mono hAnwb.size)).mono hAnwa.size))
            refine goes_take0 (i := 9) (v := ?gwc7) rfl (by kernel_rfl) (by kernel_rfl) (by kernel_rfl) rfl (fun _ _ _ h => h) (Or.inl ⟨by rfl, ?gxc7⟩) (by assumption) ?gqc7
            case gxc7 => (intro W9 _; first | (go_simp; done) | (go_simp; with_reducible rfl))
            simp only [Act.put, List.getElem_toArray, List.getElem_cons_succ, List.getElem_cons_zero, List.setIfInBounds_toArray, List.set_cons_zero, List.set_cons_succ]
            refine goes_take0 (i := 10) (v := .agg (U8s cl)) rfl (by kernel_rfl) (by kernel_rfl) (by kernel_rfl) rfl (fun _ _ _ h => h) (Or.inl ⟨by rfl, ?gxc8⟩) (by assumption) ?gqc8
            case gxc8 => (intro W9 hW9; exact exec_load_u8c ((HC4.out.below HAC.out).below hW9) (.tmp 8) rfl rfl)
            simp only [Act.put, List.getElem_toArray, List.getElem_cons_succ, List.getElem_cons_zero, List.setIfInBounds_toArray, List.set_cons_zero, List.set_cons_succ]
            refine goes_take0 (i := 11) (v := ?gwc9) rfl (by kernel_rfl) (by kernel_rfl) (by kernel_rfl) rfl (fun _ _ _ h => h) (Or.inl ⟨by rfl, ?gxc9⟩) (by assumption) ?gqc9
            case gxc9 => (intro W9 _; first | (go_simp; done) | (go_simp; with_reducible rfl))
            simp only [Act.put, List.getElem_toArray, List.getElem_cons_succ, List.getElem_cons_zero, List.setIfInBounds_toArray, List.set_cons_zero, List.set_cons_succ]
            refine goes_take0 (i := 12) (v := ?gwc10) rfl (by kernel_rfl) (by kernel_rfl) (by kernel_rfl) rfl (fun _ _ _ h => h) (Or.inl ⟨by rfl, ?gxc10⟩) (by assumption) ?gqc10
            case gxc10 => (intro W9 _; first | (go_simp; done) | (go_simp; with_reducible rfl))
            simp only [Act.put, List.getElem_toArray, List.getElem_cons_succ, List.getElem_cons_zero, List.setIfInBounds_toArray, List.set_cons_zero, List.set_cons_succ]
            refine goes_take0 (i := 14) (v := .agg (U8s cl)) rfl (by kernel_rfl) (by kernel_rfl) (by kernel_rfl) rfl (fun _ _ _ h => h) (Or.inl ⟨by rfl, ?gxc11⟩) (by assumption) ?gqc11
            case gxc11 => (intro W9 hW9; exact exec_load_u8c ((HC4.out.below HAC.out).below hW9) (.tmp 8) rfl rfl)
            simp only [Act.put, List.getElem_toArray, List.getElem_cons_succ, List.getElem_cons_zero, List.setIfInBounds_toArray, List.set_cons_zero, List.set_cons_succ]
            refine goes_take0 (i := 15) (v := ?gwc12) rfl (by kernel_rfl) (by kernel_rfl) (by kernel_rfl) rfl (fun _ _ _ h => h) (Or.inl ⟨by rfl, ?gxc12⟩) (by assumption) ?gqc12
            case gxc12 => (intro W9 _; first | (go_simp; done) | (go_simp; with_reducible rfl))
            simp only [Act.put, List.getElem_toArray, List.getElem_cons_succ, List.getElem_cons_zero, List.setIfInBounds_toArray, List.set_cons_zero, List.set_cons_succ]
            refine goes_take0 (i := 16) (v := ?gwc13) rfl (by kernel_rfl) (by kernel_rfl) (by kernel_rfl) rfl (fun _ _ _ h => h) (Or.inl ⟨by rfl, ?gxc13⟩) (by assumption) ?gqc13
            case gxc13 => (intro W9 _; first | (go_simp; done) | (go_simp; with_reducible rfl))
            simp only [Act.put, List.getElem_toArray, List.getElem_cons_succ, List.getElem_cons_zero, List.setIfInBounds_toArray, List.set_cons_zero, List.set_cons_succ]
            refine goes_one (i := 13) (by kernel_rfl) rfl (fun K9 hK9 => ?_)
            go_simp
            with_reducible refine (HRU.out _ (HAC.out.trans (hHeld.mono HAC.out.size))).mono ?_
            rintro e wd ⟨rfl, hb8⟩
            have hAnwd := hHeld.trans ((hb8).mono hHeld.size)
            refine hK9.out _ _ (fun _ => hAnwd) (fun _ => ?_)
            clear hK9 K9 hHeld
            refine Goes.more (S2 := fun W => Below wd.heap.size wd W) (fun W h => hAnwd.trans (h.mono hAnwd.size)) ?_
            have hHeld := Below.refl wd.heap.size wd
            have HAD := Lib.hid (HAC.out.trans (hAnwd.mono HAC.out.size))
            refine goes_one (i := 17) (by kernel_rfl) rfl (fun K9 hK9 => ?_)
            go_simp
            with_reducible refine (HRR.out _ (HAD.out.trans (hHeld.mono HAD.out.size))).mono ?_
            rintro e we ⟨rfl, hb9⟩
            have hAnwe := hHeld.trans ((hb9).mono hHeld.size)
            refine hK9.out _ _ (fun _ => hAnwe) (fun _ => ?_)
            clear hK9 K9 hHeld
            refine Goes.more (S2 := fun W => Below we.heap.size we W) (fun W h => hAnwe.trans (h.mono hAnwe.size)) ?_
            have hHeld := Below.refl we.heap.size we
            have HAE := Lib.hid (HBW4.out.trans ((HAD.out.trans (hAnwe.mono HAD.out.size)).mono (by rw [← HB.out]; exact HBW4.out.size)))
            refine goes_take0 (i := 18) (v := .bool true) rfl (by kernel_rfl) (by kernel_rfl) (by kernel_rfl) rfl (fun _ _ _ h => h) (Or.inl ⟨by rfl, ?gxc14⟩) (by assumption) ?gqc14
            case gxc14 => (intro W9 _; first | (go_simp; done) | (go_simp; with_reducible rfl))
            simp only [Act.put, List.getElem_toArray, List.getElem_cons_succ, List.getElem_cons_zero, List.setIfInBounds_toArray, List.set_cons_zero, List.set_cons_succ]
            refine goes_take0 (i := 19) (v := ?gwc15) rfl (by kernel_rfl) (by kernel_rfl) (by kernel_rfl) rfl (fun _ _ _ h => h) (Or.inl ⟨by rfl, ?gxc15⟩) (by assumption) ?gqc15
            case gxc15 => (intro W9 _; first | (go_simp; done) | (go_simp; with_reducible rfl))
            simp only [Act.put, List.getElem_toArray, List.getElem_cons_succ, List.getElem_cons_zero, List.setIfInBounds_toArray, List.set_cons_zero, List.set_cons_succ]
            refine goes_take0 (i := 20) (v := ?gwc16) rfl (by kernel_rfl) (by kernel_rfl) (by kernel_rfl) rfl (fun _ _ _ h => h) (Or.inl ⟨by rfl, ?gxc16⟩) (by assumption) ?gqc16
            case gxc16 => (intro W9 _; first | (go_simp; done) | (go_simp; with_reducible rfl))
            simp only [Act.put, List.getElem_toArray, List.getElem_cons_succ, List.getElem_cons_zero, List.setIfInBounds_toArray, List.set_cons_zero, List.set_cons_succ]
            refine goes_done (by kernel_rfl) ?_ _
            go_wp2
            go_ret
            exact ⟨rfl, HAE.out⟩
    · have e1 : decide ((s.size : Int) > 40) = true := decide_eq_true (by omega)
      have e2 : decide ((40 : Int) < s.size) = true := decide_eq_true (by omega)
      have e3 : decide (40 < s.size) = true := decide_eq_true (by omega)
      clear h40 h12
      go_enter Try.func4, Try.ntmps4
      go_wp2_with (go_at_call 7; (with_reducible refine (awake_any _).mono ?_); rintro e w2 ⟨rfl, hb2⟩; have HBW2 : Hid (Below B0 w w2) := Lib.hid (by rw [← HB.out]; exact hb2); clear hb2)
      go_ret
      exact ⟨rfl, HBW2.out⟩
  · have d1 : decide ((T.length : Int) > 12) = true := decide_eq_true (by omega)
    have d2 : decide ((12 : Int) < T.length) = true := decide_eq_true (by omega)
    have d3 : decide (12 < T.length) = true := decide_eq_true (by omega)
    clear h12
    go_enter Try.func4, Try.ntmps4
    go_wp2_with (go_at_call 7; (with_reducible refine (awake_any _).mono ?_); rintro e w2 ⟨rfl, hb2⟩; have HBW2 : Hid (Below B0 w w2) := Lib.hid (by rw [← HB.out]; exact hb2); clear hb2)
    go_ret
    exact ⟨rfl, HBW2.out⟩
end Go.Proofs.Ytiikmpgadmmjeaa
