/- The walk of ClassesRound. -/
import Derived.Test.YtiikmpgadmmjeaaCV
import Derived.Test.YtiikmpgadmmjeaaXH
import Derived.Deep.QuietTactic
import Derived.BigQuiet
set_option maxRecDepth 100000
namespace Go.Proofs.Ytiikmpgadmmjeaa
open Go.RowKit
attribute [local go_sem] zero_u8s

/-- Are two classes the same in the first states? -/
def sm (m : List Sta) (a b i : Nat) : Bool := (List.range i).all fun j => nextS m (j : Nat) (lowF (clsOf (likeB m)) 256 a) == nextS m (j : Nat) (lowF (clsOf (likeB m)) 256 b)
theorem sm_succ (m : List Sta) (a b i : Nat) : sm m a b (i + 1) = (sm m a b i && (nextS m (i : Nat) (lowF (clsOf (likeB m)) 256 a) == nextS m (i : Nat) (lowF (clsOf (likeB m)) 256 b))) := by
  unfold sm
  rw [List.range_succ, List.all_append]
  simp
theorem sm_end (m : List Sta) {a b : Nat} (ha : a < cntOf m) (hb : b < a) : sm m a b m.length = false := by
  obtain ⟨i, hi, hne⟩ := cls_differ m ha (show b < cntOf m by omega) (by omega)
  rw [Bool.eq_false_iff]
  intro h
  unfold sm at h
  rw [List.all_eq_true] at h
  exact hne (beq_iff_eq.1 (h i (by simpa using hi)))
theorem err_no {m : List Sta} (h : checkB m = false) : errV (checkB m) = 110 := by rw [h]; rfl
theorem err_ok {m : List Sta} (h : checkB m = true) : errV (checkB m) = 0 := by rw [h]; rfl
set_option linter.unusedSimpArgs false in
set_option maxHeartbeats 16000000 in
theorem round_law (v : Value) (m : List Sta) (s : ByteArray) (w : World) (hv : MachAt w v m) (hml : m.length < 9223372036854775808) (hl : ∀ s ∈ m, s.arcs.length < 9223372036854775808) (hm : Mays m) :
    Calls Try.prog 5 #[v, .string s] w fun e w' => e = .returned (.bool true) ∧ Below w.heap.size w w' := by
  have mixed : Try.prog.follows .mixedOrders = true := by kernel_rfl
  obtain ⟨B0, hB⟩ : ∃ B, w.heap.size = B := ⟨_, rfl⟩
  have HB := Lib.hid hB
  have HV0 := Lib.hid (fun W (hW : Below B0 w W) => hv.below (by rw [hB]; exact hW))
  obtain ⟨av, cv, rfl⟩ := hv.len
  have HL := Lib.hid hl
  have HM := Lib.hid hm
  have HML := Lib.hid hml
  clear hv hl hm
  rw [hB]
  have HAW : Hid (∀ W, Calls Try.prog 7 #[] W fun e w' => e = .returned (.bool true) ∧ Below W.heap.size W w') := Lib.hid awake_any
  by_cases h20 : m.length ≤ 20
  · have d1 : decide ((m.length : Int) > 20) = false := decide_eq_false (by omega)
    have d2 : decide ((20 : Int) < m.length) = false := decide_eq_false (by omega)
    have d3 : decide (20 < m.length) = false := decide_eq_false (by omega)
    by_cases h60 : s.size ≤ 60
    · have e1 : decide ((s.size : Int) > 60) = false := decide_eq_false (by omega)
      have e2 : decide ((60 : Int) < s.size) = false := decide_eq_false (by omega)
      have e3 : decide (60 < s.size) = false := decide_eq_false (by omega)
      have HCK := Lib.hid (fun W hW => rcheck07_any _ m W (HV0.out W hW) HL.out HM.out)
      cases hck : checkB m
      · rw [err_no hck] at HCK
        clear h20 h60 hck
        go_enter Try.func5, Try.ntmps5
        go_wp2_with (first
          | (go_at_call 7; (with_reducible refine (HAW.out _).mono ?_); rintro e w2 ⟨rfl, hb2⟩; have HBW2 : Hid (Below B0 w w2) := Lib.hid (by rw [← HB.out]; exact hb2); have HC2 := Lib.hid (HCK.out w2 HBW2.out); clear hb2)
          | (go_at_call 20; (with_reducible refine HC2.out.mono ?_); rintro e w3 ⟨rfl, hb3⟩; have HBW3 := Lib.hid (HBW2.out.trans (hb3.mono (by rw [← HB.out]; exact HBW2.out.size))); clear hb3))
        go_ret
        exact ⟨rfl, HBW3.out⟩
      · rw [err_ok hck] at HCK
        have HOF := Lib.hid (fun W hW => of_any _ m W (HV0.out W hW) (by omega) HL.out HM.out)
        have HTA := Lib.hid (fun W hW => table_any _ m W (HV0.out W hW) (by omega) HL.out HM.out)
        have HEN := Lib.hid (fun W hW => ends_any _ m W (HV0.out W hW) (by omega))
        have HOK := Lib.hid (tab_ok HM.out (by omega))
        have HTN : Hid ((tabS m).length < 1000000) := Lib.hid (by rw [tab_len]; omega)
        have HCL := Lib.hid (cls_lt m)
        have HCM := Lib.hid (cnt_mx m)
        have HBI := Lib.hid (back_is hck HM.out)
        have HRI := Lib.hid (run_is hck (bytesOf_lt s))
        have HS60 := Lib.hid h60
        have HRR := Lib.hid (fun W hW => rrun_any _ m s W (HV0.out W hW) HL.out HM.out (by have := HS60.out; omega))
        have HSE := Lib.hid (fun a b (ha : a < cntOf m) (hb : b < a) => sm_end m ha hb)
        have HSS := Lib.hid (sm_succ m)
        have HTL := Lib.hid (tab_len m)
        have HTG := Lib.hid (fun i (hi : i < m.length) => show (tabS m)[i]? = some (rowS m i) from by rw [List.getElem?_eq_getElem (by rw [tab_len]; exact hi), tab_get])
        have HRL := Lib.hid (fun i => row_len m i)
        have HRG := Lib.hid (fun i k (hk : k < (rowS m i).length) => row_get hk)
        have hn1 := cntOf_pos m
        have hn2 := cntOf_le m
        clear hck h20 h60
        obtain ⟨G, hG⟩ : ∃ G : Nat → Nat → Int, (fun i k => nextS m (i : Nat) (lowF (clsOf (likeB m)) 256 k)) = G := ⟨_, rfl⟩
        have HGE := Lib.hid (show ∀ i k, nextS m (i : Nat) (lowF (clsOf (likeB m)) 256 k) = G i k from fun i k => by rw [← hG])
        have HSS2 := Lib.hid (show ∀ a b i, sm m a b (i + 1) = (sm m a b i && (G i a == G i b)) from fun a b i => by rw [HSS.out, HGE.out, HGE.out])
        have HRG2 := Lib.hid (show ∀ i k (hk : k < (rowS m i).length), (rowS m i)[k] = G i k from fun i k hk => by rw [HRG.out i k hk, HGE.out])
        clear hG HSS HRG HGE
        obtain ⟨n, hn⟩ : ∃ n, cntOf m = n := ⟨_, rfl⟩
        obtain ⟨cl, hcl⟩ : ∃ cl, clsOf (likeB m) = cl := ⟨_, rfl⟩
        rw [hn, hcl] at HOF
        rw [hcl] at HCL HBI HRI
        rw [hcl, hn] at HCM
        rw [hn] at HSE HRL hn1 hn2
        clear hn hcl
        obtain ⟨S, hS⟩ : ∃ S : Nat → Nat → Nat → Bool, sm m = S := ⟨_, rfl⟩
        rw [hS] at HSE HSS2
        have HS0 : Hid (∀ a b, S a b 0 = true) := Lib.hid (fun a b => by rw [← hS]; rfl)
        clear hS
        obtain ⟨T, hT⟩ : ∃ T, tabS m = T := ⟨_, rfl⟩
        rw [hT] at HTA HOK HTN HBI HRI HTL HTG
        clear hT
        obtain ⟨R, hR⟩ : ∃ R, rowS m = R := ⟨_, rfl⟩
        rw [hR] at HTG HRL HRG2
        clear hR
        have g1 : decide ((n : Int) < 1) = false := decide_eq_false (by omega)
        have g2 : decide (n < 1) = false := decide_eq_false (by omega)
        have g3 : decide ((n : Int) > 256) = false := decide_eq_false (by omega)
        have g4 : decide ((256 : Int) < n) = false := decide_eq_false (by omega)
        have g5 : decide (256 < n) = false := decide_eq_false (by omega)
        obtain ⟨I1, hI1⟩ : ∃ I1, U8s (fun _ => 0) = I1 := ⟨_, rfl⟩
        have HI1 := Lib.hid hI1
        have hz := zero_u8s
        rw [hI1] at hz
        clear hI1
        obtain ⟨x, hx⟩ : ∃ x, runS m (bytesOf s) = x := ⟨_, rfl⟩
        rw [hx] at HRI HRR
        clear hx
        go_enter Try.func5, Try.ntmps5
        go_upto_region 7 with (first
          | (go_at_call 7; (with_reducible refine (HAW.out _).mono ?_); rintro e w2 ⟨rfl, hb2⟩; have HBW2 : Hid (Below B0 w w2) := Lib.hid (by rw [← HB.out]; exact hb2); have HC2 := Lib.hid (HCK.out w2 HBW2.out); clear hb2)
          | (go_at_call 20; (with_reducible refine HC2.out.mono ?_); rintro e w3 ⟨rfl, hb3⟩; have HBW3 := Lib.hid (HBW2.out.trans (hb3.mono (by rw [← HB.out]; exact HBW2.out.size))); have HOF3 := Lib.hid (HOF.out w3 HBW3.out); clear hb3)
          | (go_at_call 8; (with_reducible refine HOF3.out.mono ?_); rintro e w5 ⟨rfl, hb5⟩; have HB5 := Lib.hid hb5; obtain ⟨n5, hn5⟩ : ∃ n5, w5.heap.size = n5 := ⟨_, rfl⟩; have HN5 := Lib.hid hn5; have HC5 : Hid (UBlk (w5.alloc (.cells I1 24)) n5 fun _ => 0) := Lib.hid (by rw [← HI1.out, ← hn5]; exact UBlk.new w5 _); clear hb5)
          | (refine wpList_store_u8c n5 (fun _ => 0) cl HC5.out rfl _ _ rfl rfl rfl ?_))
        obtain ⟨w6, hw6⟩ : ∃ w6, (w5.alloc (.cells I1 24)).setRow n5 (U8s cl) = w6 := ⟨_, rfl⟩
        have hn5 := HN5.out
        have hb56 : Below n5 w5 w6 := by rw [← hw6]; exact below_setRow ((Below.refl n5 w5).alloc (by omega) _) (Nat.le_refl n5) _
        have HC6 : Hid (UBlk w6 n5 cl) := Lib.hid (by rw [← hw6]; exact HC5.out.setRow)
        have hb36 : Below w3.heap.size w3 w6 := HB5.out.trans (hb56.mono (by have := HB5.out.size; omega))
        have HBW6 := Lib.hid (HBW3.out.trans (hb36.mono (by rw [← HB.out]; exact HBW3.out.size)))
        have HTA6 := Lib.hid (HTA.out w6 HBW6.out)
        rw [hw6]
        clear hw6 hn5 hb56 hb36 HC5 HB5 HOF3 HBW3 HN5 hz HC2 HBW2 HOF HTA HCK
        go_upto_region 8 with (go_at_call 13; (with_reducible refine HTA6.out.mono ?_); rintro e w7 ⟨u7, vs, rfl, hr7, hb7⟩)
        have HT7 := Lib.hid hr7.out.tab
        have HC7 := Lib.hid (HC6.out.below hb7.out)
        have HBW7 := Lib.hid (HBW6.out.trans (hb7.out.mono (by rw [← HB.out]; exact HBW6.out.size)))
        have HRU := Lib.hid (fun W hW => trun_any cl _ T s W (HT7.out.below hW) HOK.out HCL.out (by have := HS60.out; omega))
        rw [HRI.out] at HRU
        obtain ⟨a7, c7, rfl⟩ := HT7.out.len
        rw [HTL.out] at HT7 HRU ⊢
        clear HTA6 HC6 HBW6 hr7 hb7
        refine region_goes 33 33 rfl (fun W => Below w7.heap.size w7 W) mixed (Below.refl _ _).drew (fun hHeld => ?_)
        refine goes_take0 (i := 0) (v := .agg (U8s cl)) rfl (by kernel_rfl) (by kernel_rfl) (by kernel_rfl) rfl (fun _ _ _ h => h) (Or.inl ⟨by rfl, ?gxr1⟩) (by assumption) ?gqr1
        case gxr1 => (intro W9 hW9; exact exec_load_u8c ((HC7.out).below hW9) (.tmp 6) rfl rfl)
        simp only [Act.put, List.getElem_toArray, List.getElem_cons_succ, List.getElem_cons_zero, List.setIfInBounds_toArray, List.set_cons_zero, List.set_cons_succ]
        refine goes_take0 (i := 1) (v := ?gwr2) rfl (by kernel_rfl) (by kernel_rfl) (by kernel_rfl) rfl (fun _ _ _ h => h) (Or.inl ⟨by rfl, ?gxr2⟩) (by assumption) ?gqr2
        case gxr2 => (intro W9 _; first | (go_simp; done) | (go_simp; with_reducible rfl))
        simp only [Act.put, List.getElem_toArray, List.getElem_cons_succ, List.getElem_cons_zero, List.setIfInBounds_toArray, List.set_cons_zero, List.set_cons_succ]
        refine goes_take0 (i := 2) (v := ?gwr3) rfl (by kernel_rfl) (by kernel_rfl) (by kernel_rfl) rfl (fun _ _ _ h => h) (Or.inl ⟨by rfl, ?gxr3⟩) (by assumption) ?gqr3
        case gxr3 => (intro W9 _; first | (go_simp; done) | (go_simp; with_reducible rfl))
        simp only [Act.put, List.getElem_toArray, List.getElem_cons_succ, List.getElem_cons_zero, List.setIfInBounds_toArray, List.set_cons_zero, List.set_cons_succ]
        refine goes_take0 (i := 5) (v := ?gwr4) rfl (by kernel_rfl) (by kernel_rfl) (by kernel_rfl) rfl (fun _ _ _ h => h) (Or.inl ⟨by rfl, ?gxr4⟩) (by assumption) ?gqr4
        case gxr4 => (intro W9 _; first | (go_simp; done) | (go_simp; with_reducible rfl))
        simp only [Act.put, List.getElem_toArray, List.getElem_cons_succ, List.getElem_cons_zero, List.setIfInBounds_toArray, List.set_cons_zero, List.set_cons_succ]
        refine goes_one (i := 3) (by kernel_rfl) rfl (fun K9 hK9 => ?_)
        go_simp
        with_reducible refine (HEN.out _ (HBW7.out.trans (hHeld.mono (by rw [← HB.out]; exact HBW7.out.size)))).mono ?_
        rintro e wa ⟨vE, rfl, hE, hb8⟩
        have hAnwa := hHeld.trans ((hb8.out).mono hHeld.size)
        refine hK9.out _ _ (fun _ => hAnwa) (fun _ => ?_)
        clear hK9 K9 hHeld
        refine Goes.more (S2 := fun W => Below wa.heap.size wa W) (fun W h => hAnwa.trans (h.mono hAnwa.size)) ?_
        have hHeld := Below.refl wa.heap.size wa
        have HEA := Lib.hid hE.out
        refine goes_one (i := 4) (by kernel_rfl) rfl (fun K9 hK9 => ?_)
        go_simp
        with_reducible refine (back10_any cl _ _ T (accs m) _ HOK.out HTN.out HCL.out (by have h := HT7.out.below (hAnwa.trans (hHeld.mono hAnwa.size)); rw [← HTL.out] at h ⊢; exact h) (HEA.out.below hHeld)).mono ?_
        rintro e wb ⟨vB, vsB, rfl, hrB, hb9⟩
        have hAnwb := hHeld.trans ((hb9.out).mono hHeld.size)
        refine hK9.out _ _ (fun _ => hAnwb) (fun _ => ?_)
        clear hK9 K9 hHeld
        refine Goes.more (S2 := fun W => Below wb.heap.size wb W) (fun W h => hAnwb.trans (h.mono hAnwb.size)) ?_
        have hHeld := Below.refl wb.heap.size wb
        have HMB := Lib.hid hrB.out.mach
        rw [HBI.out] at HMB
        have HAB := Lib.hid (hAnwa.trans (hAnwb.mono hAnwa.size))
        refine goes_one (i := 6) (by kernel_rfl) rfl (fun K9 hK9 => ?_)
        go_simp
        with_reducible refine (rsame07_any vB _ m m _ (HMB.out.below hHeld) (HV0.out _ (HBW7.out.trans ((HAB.out.trans (hHeld.mono HAB.out.size)).mono (by rw [← HB.out]; exact HBW7.out.size)))) HML.out HL.out HL.out).mono ?_
        rintro e wc ⟨rfl, hb10⟩
        have hAnwc := hHeld.trans ((hb10).mono hHeld.size)
        refine hK9.out _ _ (fun _ => hAnwc) (fun _ => ?_)
        clear hK9 K9 hHeld
        refine Goes.more (S2 := fun W => Below wc.heap.size wc W) (fun W h => hAnwc.trans (h.mono hAnwc.size)) ?_
        have hHeld := Below.refl wc.heap.size wc
        rw [show sameB m m = true from sameB_true.2 rfl]
        have HAC := Lib.hid (HAB.out.trans (hAnwc.mono HAB.out.size))
        refine goes_take0 (i := 7) (v := .bool false) rfl (by kernel_rfl) (by kernel_rfl) (by kernel_rfl) rfl (fun _ _ _ h => h) (Or.inl ⟨by rfl, ?gxr5⟩) (by assumption) ?gqr5
        case gxr5 => (intro W9 _; first | (go_simp; done) | (go_simp; with_reducible rfl))
        simp only [Act.put, List.getElem_toArray, List.getElem_cons_succ, List.getElem_cons_zero, List.setIfInBounds_toArray, List.set_cons_zero, List.set_cons_succ]
        refine goes_take0 (i := 8) (v := ?gwr6) rfl (by kernel_rfl) (by kernel_rfl) (by kernel_rfl) rfl (fun _ _ _ h => h) (Or.inl ⟨by rfl, ?gxr6⟩) (by assumption) ?gqr6
        case gxr6 => (intro W9 _; first | (go_simp; done) | (go_simp; with_reducible rfl))
        simp only [Act.put, List.getElem_toArray, List.getElem_cons_succ, List.getElem_cons_zero, List.setIfInBounds_toArray, List.set_cons_zero, List.set_cons_succ]
        refine goes_take0 (i := 9) (v := .agg (U8s cl)) rfl (by kernel_rfl) (by kernel_rfl) (by kernel_rfl) rfl (fun _ _ _ h => h) (Or.inl ⟨by rfl, ?gxr7⟩) (by assumption) ?gqr7
        case gxr7 => (intro W9 hW9; exact exec_load_u8c ((HC7.out.below HAC.out).below hW9) (.tmp 6) rfl rfl)
        simp only [Act.put, List.getElem_toArray, List.getElem_cons_succ, List.getElem_cons_zero, List.setIfInBounds_toArray, List.set_cons_zero, List.set_cons_succ]
        refine goes_take0 (i := 10) (v := ?gwr8) rfl (by kernel_rfl) (by kernel_rfl) (by kernel_rfl) rfl (fun _ _ _ h => h) (Or.inl ⟨by rfl, ?gxr8⟩) (by assumption) ?gqr8
        case gxr8 => (intro W9 _; first | (go_simp; done) | (go_simp; with_reducible rfl))
        simp only [Act.put, List.getElem_toArray, List.getElem_cons_succ, List.getElem_cons_zero, List.setIfInBounds_toArray, List.set_cons_zero, List.set_cons_succ]
        refine goes_take0 (i := 11) (v := ?gwr9) rfl (by kernel_rfl) (by kernel_rfl) (by kernel_rfl) rfl (fun _ _ _ h => h) (Or.inl ⟨by rfl, ?gxr9⟩) (by assumption) ?gqr9
        case gxr9 => (intro W9 _; first | (go_simp; done) | (go_simp; with_reducible rfl))
        simp only [Act.put, List.getElem_toArray, List.getElem_cons_succ, List.getElem_cons_zero, List.setIfInBounds_toArray, List.set_cons_zero, List.set_cons_succ]
        refine goes_take0 (i := 13) (v := ?gwr10) rfl (by kernel_rfl) (by kernel_rfl) (by kernel_rfl) rfl (fun _ _ _ h => h) (Or.inl ⟨by rfl, ?gxr10⟩) (by assumption) ?gqr10
        case gxr10 => (intro W9 _; first | (go_simp; done) | (go_simp; with_reducible rfl))
        simp only [Act.put, List.getElem_toArray, List.getElem_cons_succ, List.getElem_cons_zero, List.setIfInBounds_toArray, List.set_cons_zero, List.set_cons_succ]
        refine goes_take0 (i := 14) (v := ?gwr11) rfl (by kernel_rfl) (by kernel_rfl) (by kernel_rfl) rfl (fun _ _ _ h => h) (Or.inl ⟨by rfl, ?gxr11⟩) (by assumption) ?gqr11
        case gxr11 => (intro W9 _; first | (go_simp; done) | (go_simp; with_reducible rfl))
        simp only [Act.put, List.getElem_toArray, List.getElem_cons_succ, List.getElem_cons_zero, List.setIfInBounds_toArray, List.set_cons_zero, List.set_cons_succ]
        refine goes_one (i := 12) (by kernel_rfl) rfl (fun K9 hK9 => ?_)
        go_simp
        with_reducible refine (HRU.out _ (HAC.out.trans (hHeld.mono HAC.out.size))).mono ?_
        rintro e wd ⟨rfl, hb11⟩
        have hAnwd := hHeld.trans ((hb11).mono hHeld.size)
        refine hK9.out _ _ (fun _ => hAnwd) (fun _ => ?_)
        clear hK9 K9 hHeld
        refine Goes.more (S2 := fun W => Below wd.heap.size wd W) (fun W h => hAnwd.trans (h.mono hAnwd.size)) ?_
        have hHeld := Below.refl wd.heap.size wd
        have HAD := Lib.hid (HAC.out.trans (hAnwd.mono HAC.out.size))
        refine goes_one (i := 15) (by kernel_rfl) rfl (fun K9 hK9 => ?_)
        go_simp
        with_reducible refine (HRR.out _ (HBW7.out.trans ((HAD.out.trans (hHeld.mono HAD.out.size)).mono (by rw [← HB.out]; exact HBW7.out.size)))).mono ?_
        rintro e we ⟨rfl, e9⟩
        have hb12 : Below wd.heap.size wd we := by rw [e9]; exact Below.refl _ _
        clear e9
        have hAnwe := hHeld.trans ((hb12).mono hHeld.size)
        refine hK9.out _ _ (fun _ => hAnwe) (fun _ => ?_)
        clear hK9 K9 hHeld
        refine Goes.more (S2 := fun W => Below we.heap.size we W) (fun W h => hAnwe.trans (h.mono hAnwe.size)) ?_
        have hHeld := Below.refl we.heap.size we
        have HAE := Lib.hid (HAD.out.trans (hAnwe.mono HAD.out.size))
        refine goes_take0 (i := 16) (v := .bool false) rfl (by kernel_rfl) (by kernel_rfl) (by kernel_rfl) rfl (fun _ _ _ h => h) (Or.inl ⟨by rfl, ?gxr12⟩) (by assumption) ?gqr12
        case gxr12 => (intro W9 _; first | (go_simp; done) | (go_simp; with_reducible rfl))
        simp only [Act.put, List.getElem_toArray, List.getElem_cons_succ, List.getElem_cons_zero, List.setIfInBounds_toArray, List.set_cons_zero, List.set_cons_succ]
        refine goes_take0 (i := 17) (v := ?gwr13) rfl (by kernel_rfl) (by kernel_rfl) (by kernel_rfl) rfl (fun _ _ _ h => h) (Or.inl ⟨by rfl, ?gxr13⟩) (by assumption) ?gqr13
        case gxr13 => (intro W9 _; first | (go_simp; done) | (go_simp; with_reducible rfl))
        simp only [Act.put, List.getElem_toArray, List.getElem_cons_succ, List.getElem_cons_zero, List.setIfInBounds_toArray, List.set_cons_zero, List.set_cons_succ]
        refine goes_take0 (i := 18) (v := ?gwr14) rfl (by kernel_rfl) (by kernel_rfl) (by kernel_rfl) rfl (fun _ _ _ h => h) (Or.inl ⟨by rfl, ?gxr14⟩) (by assumption) ?gqr14
        case gxr14 => (intro W9 _; first | (go_simp; done) | (go_simp; with_reducible rfl))
        simp only [Act.put, List.getElem_toArray, List.getElem_cons_succ, List.getElem_cons_zero, List.setIfInBounds_toArray, List.set_cons_zero, List.set_cons_succ]
        refine goes_take0 (i := 19) (v := ?gwr15) rfl (by kernel_rfl) (by kernel_rfl) (by kernel_rfl) rfl (fun _ _ _ h => h) (Or.inl ⟨by rfl, ?gxr15⟩) (by assumption) ?gqr15
        case gxr15 => (intro W9 _; first | (go_simp; done) | (go_simp; with_reducible rfl))
        simp only [Act.put, List.getElem_toArray, List.getElem_cons_succ, List.getElem_cons_zero, List.setIfInBounds_toArray, List.set_cons_zero, List.set_cons_succ]
        refine goes_take0 (i := 20) (v := .bool false) rfl (by kernel_rfl) (by kernel_rfl) (by kernel_rfl) rfl (fun _ _ _ h => h) (Or.inl ⟨by rfl, ?gxr16⟩) (by assumption) ?gqr16
        case gxr16 => (intro W9 _; first | (go_simp; done) | (go_simp; with_reducible rfl))
        simp only [Act.put, List.getElem_toArray, List.getElem_cons_succ, List.getElem_cons_zero, List.setIfInBounds_toArray, List.set_cons_zero, List.set_cons_succ]
        refine goes_take0 (i := 21) (v := ?gwr17) rfl (by kernel_rfl) (by kernel_rfl) (by kernel_rfl) rfl (fun _ _ _ h => h) (Or.inl ⟨by rfl, ?gxr17⟩) (by assumption) ?gqr17
        case gxr17 => (intro W9 _; first | (go_simp; done) | (go_simp; with_reducible rfl))
        simp only [Act.put, List.getElem_toArray, List.getElem_cons_succ, List.getElem_cons_zero, List.setIfInBounds_toArray, List.set_cons_zero, List.set_cons_succ]
        refine goes_take0 (i := 22) (v := ?gwr18) rfl (by kernel_rfl) (by kernel_rfl) (by kernel_rfl) rfl (fun _ _ _ h => h) (Or.inl ⟨by rfl, ?gxr18⟩) (by assumption) ?gqr18
        case gxr18 => (intro W9 _; first | (go_simp; done) | (go_simp; with_reducible rfl))
        simp only [Act.put, List.getElem_toArray, List.getElem_cons_succ, List.getElem_cons_zero, List.setIfInBounds_toArray, List.set_cons_zero, List.set_cons_succ]
        refine goes_take0 (i := 23) (v := ?gwr19) rfl (by kernel_rfl) (by kernel_rfl) (by kernel_rfl) rfl (fun _ _ _ h => h) (Or.inl ⟨by rfl, ?gxr19⟩) (by assumption) ?gqr19
        case gxr19 => (intro W9 _; first | (go_simp; done) | (go_simp; with_reducible rfl))
        simp only [Act.put, List.getElem_toArray, List.getElem_cons_succ, List.getElem_cons_zero, List.setIfInBounds_toArray, List.set_cons_zero, List.set_cons_succ]
        refine goes_take0 (i := 24) (v := .bool false) rfl (by kernel_rfl) (by kernel_rfl) (by kernel_rfl) rfl (fun _ _ _ h => h) (Or.inl ⟨by rfl, ?gxr20⟩) (by assumption) ?gqr20
        case gxr20 => (intro W9 _; first | (go_simp; done) | (go_simp; with_reducible rfl))
        simp only [Act.put, List.getElem_toArray, List.getElem_cons_succ, List.getElem_cons_zero, List.setIfInBounds_toArray, List.set_cons_zero, List.set_cons_succ]
        refine goes_take0 (i := 25) (v := ?gwr21) rfl (by kernel_rfl) (by kernel_rfl) (by kernel_rfl) rfl (fun _ _ _ h => h) (Or.inl ⟨by rfl, ?gxr21⟩) (by assumption) ?gqr21
        case gxr21 => (intro W9 _; first | (go_simp; done) | (go_simp; with_reducible rfl))
        simp only [Act.put, List.getElem_toArray, List.getElem_cons_succ, List.getElem_cons_zero, List.setIfInBounds_toArray, List.set_cons_zero, List.set_cons_succ]
        refine goes_take0 (i := 26) (v := ?gwr22) rfl (by kernel_rfl) (by kernel_rfl) (by kernel_rfl) rfl (fun _ _ _ h => h) (Or.inl ⟨by rfl, ?gxr22⟩) (by assumption) ?gqr22
        case gxr22 => (intro W9 _; first | (go_simp; done) | (go_simp; with_reducible rfl))
        simp only [Act.put, List.getElem_toArray, List.getElem_cons_succ, List.getElem_cons_zero, List.setIfInBounds_toArray, List.set_cons_zero, List.set_cons_succ]
        refine goes_take0 (i := 27) (v := .agg (U8s cl)) rfl (by kernel_rfl) (by kernel_rfl) (by kernel_rfl) rfl (fun _ _ _ h => h) (Or.inl ⟨by rfl, ?gxr23⟩) (by assumption) ?gqr23
        case gxr23 => (intro W9 hW9; exact exec_load_u8c ((HC7.out.below HAE.out).below hW9) (.tmp 6) rfl rfl)
        simp only [Act.put, List.getElem_toArray, List.getElem_cons_succ, List.getElem_cons_zero, List.setIfInBounds_toArray, List.set_cons_zero, List.set_cons_succ]
        refine goes_take0 (i := 30) (v := ?gwr24) rfl (by kernel_rfl) (by kernel_rfl) (by kernel_rfl) rfl (fun _ _ _ h => h) (Or.inl ⟨by rfl, ?gxr24⟩) (by assumption) ?gqr24
        case gxr24 => (intro W9 _; first | (go_simp; done) | (go_simp; with_reducible rfl))
        simp only [Act.put, List.getElem_toArray, List.getElem_cons_succ, List.getElem_cons_zero, List.setIfInBounds_toArray, List.set_cons_zero, List.set_cons_succ]
        refine goes_one (i := 28) (by kernel_rfl) rfl (fun K9 hK9 => ?_)
        go_simp
        with_reducible refine (lows_any cl n _ HCL.out HCM.out).mono ?_
        rintro e wf ⟨L, rfl, _, _, hb13⟩
        have hAnwf := hHeld.trans ((hb13.out).mono hHeld.size)
        refine hK9.out _ _ (fun _ => hAnwf) (fun _ => ?_)
        clear hK9 K9 hHeld
        refine Goes.more (S2 := fun W => Below wf.heap.size wf W) (fun W h => hAnwf.trans (h.mono hAnwf.size)) ?_
        have hHeld := Below.refl wf.heap.size wf
        have HAF := Lib.hid (HAE.out.trans (hAnwf.mono HAE.out.size))
        refine goes_take0 (i := 29) (v := ?gwr25) rfl (by kernel_rfl) (by kernel_rfl) (by kernel_rfl) rfl (fun _ _ _ h => h) (Or.inl ⟨by rfl, ?gxr25⟩) (by assumption) ?gqr25
        case gxr25 => (intro W9 _; first | (go_simp; done) | (go_simp; with_reducible rfl))
        simp only [Act.put, List.getElem_toArray, List.getElem_cons_succ, List.getElem_cons_zero, List.setIfInBounds_toArray, List.set_cons_zero, List.set_cons_succ]
        refine goes_take0 (i := 31) (v := .bool false) rfl (by kernel_rfl) (by kernel_rfl) (by kernel_rfl) rfl (fun _ _ _ h => h) (Or.inl ⟨by rfl, ?gxr26⟩) (by assumption) ?gqr26
        case gxr26 => (intro W9 _; first | (go_simp; done) | (go_simp; with_reducible rfl))
        simp only [Act.put, List.getElem_toArray, List.getElem_cons_succ, List.getElem_cons_zero, List.setIfInBounds_toArray, List.set_cons_zero, List.set_cons_succ]
        refine goes_take0 (i := 32) (v := ?gwr27) rfl (by kernel_rfl) (by kernel_rfl) (by kernel_rfl) rfl (fun _ _ _ h => h) (Or.inl ⟨by rfl, ?gxr27⟩) (by assumption) ?gqr27
        case gxr27 => (intro W9 _; first | (go_simp; done) | (go_simp; with_reducible rfl))
        simp only [Act.put, List.getElem_toArray, List.getElem_cons_succ, List.getElem_cons_zero, List.setIfInBounds_toArray, List.set_cons_zero, List.set_cons_succ]
        refine goes_done (by kernel_rfl) ?_ _
        have HTF := Lib.hid (HT7.out.below HAF.out)
        have HBF := Lib.hid (HBW7.out.trans (HAF.out.mono (by rw [← HB.out]; exact HBW7.out.size)))
        clear HT7 HC7 HBW7 hHeld g1 g2 g3 g4 g5 hAnwa hAnwb hAnwc hAnwd hAnwe hAnwf
        go_wp2
        go_loopw [9, 10, 11, 12] (fun z _ _ _ wr => ∃ a : Nat, z = .int .i64 a ∧ a ≤ n ∧ ∃ q, wr = wf.drewN q) (fun z _ _ _ _ => n - (intOf z).toNat)
        case atStart => exact ⟨0, rfl, Nat.zero_le _, 0, rfl⟩
        case round =>
          obtain ⟨a, rfl, ha, q, rfl⟩ := hrel
          by_cases hlt : a < n
          · have f1 : decide ((a : Int) < n) = true := decide_eq_true (by omega)
            have hai : (a : Int) < n := by omega
            go_wp2
            go_loopw [10, 11, 12] (fun z _ _ wr => ∃ b : Nat, z = .int .i64 b ∧ b ≤ a ∧ ∃ q, wr = wf.drewN q) (fun z _ _ _ => a - (intOf z).toNat)
            case atStart => exact ⟨0, rfl, Nat.zero_le _, q, rfl⟩
            case round =>
              obtain ⟨b, rfl, hb, q2, rfl⟩ := hrel
              by_cases hlb : b < a
              · have f2 : decide ((b : Int) < a) = true := decide_eq_true (by omega)
                have hbi : (b : Int) < n := by omega
                have HEND := Lib.hid (HSE.out a b hlt hlb)
                have HSU := Lib.hid (HSS2.out a b)
                have HZ := Lib.hid (HS0.out a b)
                obtain ⟨F, hF⟩ : ∃ F, S a b = F := ⟨_, rfl⟩
                rw [hF] at HEND HSU HZ
                clear hF
                go_wp2
                go_loopw [11, 12] (fun z y wr => ∃ i : Nat, y = .int .i64 i ∧ i ≤ m.length ∧ z = .bool (F i) ∧ ∃ q, wr = wf.drewN q) (fun _ y _ => m.length - (intOf y).toNat)
                case atStart => exact ⟨0, rfl, Nat.zero_le _, by rw [HZ.out], q2, rfl⟩
                case round =>
                  obtain ⟨i, rfl, hi, rfl, q3, rfl⟩ := hrel
                  by_cases hli : i < m.length
                  · have f3 : decide ((i : Int) < m.length) = true := decide_eq_true (by omega)
                    have hii : (i : Int) < m.length := by omega
                    have HSN := Lib.hid (HSU.out i)
                    have hiT : i < T.length := by rw [HTL.out]; exact hli
                    obtain ⟨bT, oT, rv, ha7, c0, hrow⟩ := HTF.out.at (by rw [HTL.out]) hiT
                    obtain rfl := ha7
                    have hTi : T[i] = R i := by
                      have := HTG.out i hli
                      rw [List.getElem?_eq_getElem hiT] at this
                      exact Option.some.inj this
                    rw [hTi] at hrow
                    have hRi := HRL.out i
                    have hka : a < (R i).length := by rw [hRi]; exact hlt
                    have hkb : b < (R i).length := by rw [hRi]; omega
                    have hga := HRG2.out i a hka
                    have hgb := HRG2.out i b hkb
                    obtain ⟨ar, cr, rfl⟩ := hrow.len
                    obtain ⟨b3, o3, rfl, c1⟩ := hrow.at rfl hka
                    obtain ⟨b4, o4, he4, c2⟩ := hrow.at rfl hkb
                    cases he4
                    rw [hga] at c1
                    rw [hgb] at c2
                    rw [hRi] at c0
                    clear hga hgb hka hkb hrow hTi hiT hRi
                    cases hfi : F i
                    · rw [hfi] at HSN
                      rw [Bool.false_and] at HSN
                      clear hfi
                      go_upto_region 20 with fail
                      go_quiet (fail)
                      revert nq
                      intro n1
                      rw [World.drewN_drewN]
                      obtain ⟨q4, hq4⟩ : ∃ q4, q3 + n1 = q4 := ⟨_, rfl⟩
                      rw [hq4]
                      clear hq4 c0 c1 c2
                      go_wp2
                      exact ⟨⟨i + 1, rfl, hli, by rw [HSN.out], q4, rfl⟩, by simp only [intOf]; omega⟩
                    · rw [hfi] at HSN
                      rw [Bool.true_and] at HSN
                      clear hfi
                      generalize G i a = x1 at *
                      generalize G i b = x2 at *
                      go_upto_region 20 with fail
                      go_quiet (fail)
                      revert nq
                      intro n1
                      rw [World.drewN_drewN]
                      obtain ⟨q4, hq4⟩ : ∃ q4, q3 + n1 = q4 := ⟨_, rfl⟩
                      rw [hq4]
                      clear hq4 c0 c1 c2
                      go_wp2
                      exact ⟨⟨i + 1, rfl, hli, by rw [HSN.out], q4, rfl⟩, by simp only [intOf]; omega⟩
                  · obtain rfl : i = m.length := by omega
                    have f3 : decide ((m.length : Int) < m.length) = false := by simp
                    rw [HEND.out]
                    go_wp2
                    exact ⟨⟨b + 1, rfl, hlb, q3, rfl⟩, by simp only [intOf]; omega⟩
              · obtain rfl : b = a := by omega
                have f2 : decide ((b : Int) < b) = false := by simp
                go_wp2
                exact ⟨⟨b + 1, rfl, hlt, q2, rfl⟩, by simp only [intOf]; omega⟩
          · obtain rfl : a = n := by omega
            have f1 : decide ((a : Int) < a) = false := by simp
            go_wp2
            go_ret
            exact ⟨rfl, HBF.out.trans ((below_drewN wf q).mono (by rw [← HB.out]; exact HBF.out.size))⟩
    · have e1 : decide ((s.size : Int) > 60) = true := decide_eq_true (by omega)
      have e2 : decide ((60 : Int) < s.size) = true := decide_eq_true (by omega)
      have e3 : decide (60 < s.size) = true := decide_eq_true (by omega)
      clear h60 h20
      go_enter Try.func5, Try.ntmps5
      go_wp2_with (go_at_call 7; (with_reducible refine (HAW.out _).mono ?_); rintro e w2 ⟨rfl, hb2⟩; have HBW2 : Hid (Below B0 w w2) := Lib.hid (by rw [← HB.out]; exact hb2); clear hb2)
      go_ret
      exact ⟨rfl, HBW2.out⟩
  · have d1 : decide ((m.length : Int) > 20) = true := decide_eq_true (by omega)
    have d2 : decide ((20 : Int) < m.length) = true := decide_eq_true (by omega)
    have d3 : decide (20 < m.length) = true := decide_eq_true (by omega)
    clear h20
    go_enter Try.func5, Try.ntmps5
    go_wp2_with (go_at_call 7; (with_reducible refine (HAW.out _).mono ?_); rintro e w2 ⟨rfl, hb2⟩; have HBW2 : Hid (Below B0 w w2) := Lib.hid (by rw [← HB.out]; exact hb2); clear hb2)
    go_ret
    exact ⟨rfl, HBW2.out⟩
end Go.Proofs.Ytiikmpgadmmjeaa
