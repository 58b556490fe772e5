/- Texts that a proof rests on: The walk of the law NfaClosed. -/
import Derived.Test.YtpfhhdiipedklaaDoorK42
import Derived.Test.YtpfhhdiipedklaaDoorK12
set_option maxRecDepth 100000
namespace Go.Proofs.YtpfhhdiipedklaaDoor
open Go.RowKit

theorem row_at {w : World} {B n : Nat} {v : Value} {l : List Nat} (h : w.ownsRow B 3 1 v n (l.map fun x : Nat => Value.int .i64 (x : Int))) (hn : n = l.length) : ∃ a c, v = .slice a n c ∧ ∀ i (hi : i < l.length), ∃ b, a = some ⟨b, 0, none⟩ ∧ w.cell? ⟨b, i, none⟩ = some (.int .i64 l[i]) := by
  obtain ⟨a, c, e⟩ : ∃ a c, v = .slice a n c := by
    rcases h.2 with ⟨rfl, h2⟩ | ⟨g, cap, cur, rfl, _⟩
    · exact ⟨none, 0, by rw [h2]⟩
    · exact ⟨_, _, rfl⟩
  refine ⟨a, c, e, fun i hi => ?_⟩
  obtain ⟨b, c2, e2, hc⟩ := row_cell h (by omega)
  rw [e] at e2; cases e2
  exact ⟨b, rfl, hc i _ (by rw [List.getElem?_map, List.getElem?_eq_getElem hi]; rfl)⟩
set_option linter.unusedSimpArgs false in
set_option maxHeartbeats 4000000 in
theorem closed_law (code : ByteArray) (v : Value) (L : List Int) (w : World) (hT : Tab w) (hv : IntsAt w v L) :
    Calls Tryd.prog 5 #[.string code, v] w fun e w' => e = .returned (.bool true) ∧ Below w.heap.size w w' := by
  have HAW := Lib.hid (awake_any w hT)
  have HT := Lib.hid hT
  have HV := Lib.hid (show ∀ wr, Below w.heap.size w wr → IntsAt wr v L from fun wr hb => hv.below hb)
  obtain ⟨a, cp, rfl, _⟩ := hv
  clear hT
  go_enter Tryd.func5, Tryd.ntmps5
  go_upto_region 2 with (go_at_call 7; (with_reducible refine HAW.out.mono ?_); rintro e w1 ⟨rfl, hb1⟩)
  have HB1 := Lib.hid hb1
  clear hb1 HAW
  by_cases hc : code.size > 10
  · have hd1 : decide ((code.size : Int) > 10) = true := decide_eq_true (by omega)
    have hd2 : decide ((10 : Int) < code.size) = true := decide_eq_true (by omega)
    go_wp2
    go_ret
    exact ⟨rfl, HB1.out⟩
  have hd1 : decide ((code.size : Int) > 10) = false := decide_eq_false (by omega)
  have hd2 : decide ((10 : Int) < code.size) = false := decide_eq_false (by omega)
  by_cases hl : L.length > 60
  · have hd3 : decide ((L.length : Int) > 60) = true := decide_eq_true (by omega)
    have hd4 : decide ((60 : Int) < L.length) = true := decide_eq_true (by omega)
    go_wp2
    go_ret
    exact ⟨rfl, HB1.out⟩
  have hd3 : decide ((L.length : Int) > 60) = false := decide_eq_false (by omega)
  have hd4 : decide ((60 : Int) < L.length) = false := decide_eq_false (by omega)
  have HPL := Lib.hid (rplain_any code w1 (by omega))
  have hcs : code.size ≤ 10 := by omega
  have hls : L.length ≤ 60 := by omega
  clear hc hl
  go_upto_region 7 with (first
    | (go_at_call 9; (with_reducible refine HPL.out.mono ?_); rintro e w2 ⟨p, ks, rfl, HK2, hs2, HG2, HB2⟩; have HBD := Lib.hid (nbuild_plain p ks w2 (by omega) HK2.out HG2.out))
    | (go_at_call 8; (with_reducible refine HBD.out.mono ?_); rintro e w3 ⟨n, ae, ne, ce, aa, na, ca, x4, r, rfl, HR3, HB3⟩))
  have HW3 := Lib.hid (HB1.out.trans ((HB2.out.trans (HB3.out.mono HB2.out.size)).mono HB1.out.size))
  clear HPL HBD HK2 HB2 HB3 HB1 hd1 hd2
  rcases HR3.out with rfl | ⟨rfl, rfl, rfl, rfl, rfl, hc3, he3, ha3⟩
  · go_wp2
    go_ret
    exact ⟨rfl, HW3.out.trans ((new_one w3 _).mono HW3.out.size)⟩
  have hok := built_ok HG2.out.1 HG2.out.2
  generalize (bld p M0).e = E at *
  generalize (bld p M0).a = A at *
  generalize p.cnt = cnt at *
  obtain ⟨b, hbe⟩ : ∃ b, w3.heap.size = b := ⟨_, rfl⟩
  obtain ⟨w4, hw4⟩ : ∃ w4, w3.alloc (.cells #[.int .i64 cnt, .slice ae E.length ce, .slice aa A.length ca, .int .i64 0, .int .i64 1] 27) = w4 := ⟨_, rfl⟩
  have hb34 : Below w3.heap.size w3 w4 := by rw [← hw4]; exact new_one w3 _
  have HX4 : Hid (Nblk w4 b cnt (.slice ae E.length ce) (.slice aa A.length ca)) := Lib.hid (by rw [← hw4, ← hbe]; exact Nblk.new w3 cnt _ _)
  have HW4 := Lib.hid (HW3.out.trans (hb34.mono HW3.out.size))
  have HE4 := Lib.hid (he3.below hb34)
  have HA4 := Lib.hid (ha3.below hb34)
  have hel : E.length ≤ 20000 := by omega
  have hal : A.length ≤ 20000 := by omega
  have HCLO := Lib.hid (fun W (hW : Below w4.heap.size w4 W) v (M : List Int) (hM : M.length < 100000000) (hi : IntsAt W v M) => nclose_any cnt E A (.slice ae E.length ce) (.slice aa A.length ca) v M W (by omega) (HE4.out.below hW) (HA4.out.below hW) hel hal hM hi (HT.out.below (HW4.out.trans (hW.mono HW4.out.size))))
  have HCL := Lib.hid (HCLO.out w4 (Below.refl _ _) (.slice a L.length cp) L (by omega) (HV.out w4 HW4.out))
  rw [hw4, hbe]
  clear hw4 hbe hb34 HR3 he3 ha3 hok HW3 HG2
  obtain ⟨x0, x1, x2, x3, x4⟩ := HX4.out.cells
  go_upto_region 10 with (go_at_call 11; (with_reducible refine HCL.out.mono ?_); rintro e w5 ⟨v5, l, rfl, HR5, HL5, HB5⟩)
  clear x0 x1 x2 x3 x4 HCL
  have HS := Lib.hid (Shut2.mk HL5.out.1 HL5.out.2)
  have HC5 := Lib.hid (show ∀ wr, Below w5.heap.size w5 wr → wr.ownsRow w4.heap.size 3 1 v5 l.length (l.map fun x : Nat => Value.int .i64 (x : Int)) from fun wr hb => row_keep HR5.out fun _ _ _ h1 => (hb.block _ (lt_of_block h1)).trans h1)
  obtain ⟨ac, cc, rfl, _⟩ := row_at HR5.out rfl
  have hln : l.length ≤ cnt := rise_len HL5.out
  have HX5 := Lib.hid (show ∀ wr, Below w5.heap.size w5 wr → Nblk wr b cnt (.slice ae E.length ce) (.slice aa A.length ca) from fun wr hb => (HX4.out.below HB5.out).below hb)
  have HW5 := Lib.hid (HW4.out.trans (HB5.out.mono HW4.out.size))
  have HB45 := HB5
  clear HR5 HL5 HB5 HX4
  have mixed : Tryd.prog.follows .mixedOrders = true := by kernel_rfl
  have hrf : Hid (Below w5.heap.size w5 w5) := Lib.hid (Below.refl _ _)
  go_wp2
  go_loopw [9] (fun x wr => ∃ k : Nat, x = .int .i64 k ∧ k ≤ l.length ∧ Hid (Below w5.heap.size w5 wr)) (fun x _ => l.length - (intOf x).toNat)
  case atStart => exact ⟨0, rfl, Nat.zero_le _, hrf⟩
  case round =>
    clear hrf
    obtain ⟨k, rfl, hk, HBR⟩ := hrel
    by_cases hlt : k < l.length
    · have hdd : decide ((k : Int) < l.length) = true := decide_eq_true (by omega)
      obtain ⟨ac', cc', e, hat⟩ := row_at (HC5.out wr HBR.out) rfl
      cases e
      obtain ⟨g, rfl, c1⟩ := hat k hlt
      have hx := HS.out.lt hlt
      obtain ⟨z0, _⟩ := (HX5.out wr HBR.out).cells
      by_cases hk0 : k = 0
      · subst hk0
        generalize l[0] = x at *
        have e1 : decide ((x : Int) < 0) = false := decide_eq_false (by omega)
        have e2 : decide ((x : Int) ≥ cnt) = false := decide_eq_false (by omega)
        have e3 : decide ((cnt : Int) ≤ x) = false := decide_eq_false (by omega)
        have e4 : decide (((0 : Nat) : Int) > 0) = false := by decide
        have e5 : decide ((0 : Int) < ((0 : Nat) : Int)) = false := by decide
        clear hat
        go_wp2
        refine region_goes 130 30 rfl (fun W => W.cell? ⟨g, 0, none⟩ = some (.int .i64 x) ∧ W.cell? ⟨b, 0, none⟩ = some (.int .i64 cnt)) mixed ⟨c1, z0⟩ (fun hHeld => ?_)
        refine goes_take0 (i := 0) (v := ?hv1) rfl (by kernel_rfl) (by kernel_rfl) (by kernel_rfl) rfl (fun _ _ _ h => h) (Or.inl ⟨by rfl, ?hy1⟩) (by assumption) ?hr1
        case hy1 => (intro W9 hW9; obtain ⟨k0, k1⟩ := hW9; first | (go_simp; done) | (go_simp; with_reducible rfl))
        simp only [Act.put, List.getElem_toArray, List.getElem_cons_succ, List.getElem_cons_zero, List.setIfInBounds_toArray, List.set_cons_zero, List.set_cons_succ]
        refine goes_take0 (i := 1) (v := ?hv2) rfl (by kernel_rfl) (by kernel_rfl) (by kernel_rfl) rfl (fun _ _ _ h => h) (Or.inl ⟨by rfl, ?hy2⟩) (by assumption) ?hr2
        case hy2 => (intro W9 hW9; obtain ⟨k0, k1⟩ := hW9; first | (go_simp; done) | (go_simp; with_reducible rfl))
        simp only [Act.put, List.getElem_toArray, List.getElem_cons_succ, List.getElem_cons_zero, List.setIfInBounds_toArray, List.set_cons_zero, List.set_cons_succ]
        refine goes_take0 (i := 2) (v := ?hv3) rfl (by kernel_rfl) (by kernel_rfl) (by kernel_rfl) rfl (fun _ _ _ h => h) (Or.inl ⟨by rfl, ?hy3⟩) (by assumption) ?hr3
        case hy3 => (intro W9 hW9; obtain ⟨k0, k1⟩ := hW9; first | (go_simp; done) | (go_simp; with_reducible rfl))
        simp only [Act.put, List.getElem_toArray, List.getElem_cons_succ, List.getElem_cons_zero, List.setIfInBounds_toArray, List.set_cons_zero, List.set_cons_succ]
        refine goes_take0 (i := 3) (v := ?hv4) rfl (by kernel_rfl) (by kernel_rfl) (by kernel_rfl) rfl (fun _ _ _ h => h) (Or.inl ⟨by rfl, ?hy4⟩) (by assumption) ?hr4
        case hy4 => (intro W9 hW9; obtain ⟨k0, k1⟩ := hW9; first | (go_simp; done) | (go_simp; with_reducible rfl))
        simp only [Act.put, List.getElem_toArray, List.getElem_cons_succ, List.getElem_cons_zero, List.setIfInBounds_toArray, List.set_cons_zero, List.set_cons_succ]
        refine goes_take0 (i := 4) (v := (.bool false)) rfl (by kernel_rfl) (by kernel_rfl) (by kernel_rfl) rfl (fun _ _ _ h => h) (Or.inl ⟨by rfl, ?hy5⟩) (by assumption) ?hr5
        case hy5 => (intro W9 hW9; obtain ⟨k0, k1⟩ := hW9; first | (go_simp; done) | (go_simp; with_reducible rfl))
        simp only [Act.put, List.getElem_toArray, List.getElem_cons_succ, List.getElem_cons_zero, List.setIfInBounds_toArray, List.set_cons_zero, List.set_cons_succ]
        refine goes_take0 (i := 5) (v := (.bool false)) rfl (by kernel_rfl) (by kernel_rfl) (by kernel_rfl) rfl (fun _ _ _ h => h) (Or.inl ⟨by rfl, ?hy6⟩) (by assumption) ?hr6
        case hy6 => (intro W9 hW9; obtain ⟨k0, k1⟩ := hW9; first | (go_simp; done) | (go_simp; with_reducible rfl))
        simp only [Act.put, List.getElem_toArray, List.getElem_cons_succ, List.getElem_cons_zero, List.setIfInBounds_toArray, List.set_cons_zero, List.set_cons_succ]
        refine goes_take0 (i := 6) (v := ?hv7) rfl (by kernel_rfl) (by kernel_rfl) (by kernel_rfl) rfl (fun _ _ _ h => h) (Or.inl ⟨by rfl, ?hy7⟩) (by assumption) ?hr7
        case hy7 => (intro W9 hW9; obtain ⟨k0, k1⟩ := hW9; first | (go_simp; done) | (go_simp; with_reducible rfl))
        simp only [Act.put, List.getElem_toArray, List.getElem_cons_succ, List.getElem_cons_zero, List.setIfInBounds_toArray, List.set_cons_zero, List.set_cons_succ]
        refine goes_take0 (i := 7) (v := ?hv8) rfl (by kernel_rfl) (by kernel_rfl) (by kernel_rfl) rfl (fun _ _ _ h => h) (Or.inl ⟨by rfl, ?hy8⟩) (by assumption) ?hr8
        case hy8 => (intro W9 hW9; obtain ⟨k0, k1⟩ := hW9; first | (go_simp; done) | (go_simp; with_reducible rfl))
        simp only [Act.put, List.getElem_toArray, List.getElem_cons_succ, List.getElem_cons_zero, List.setIfInBounds_toArray, List.set_cons_zero, List.set_cons_succ]
        refine goes_take0 (i := 8) (v := ?hv9) rfl (by kernel_rfl) (by kernel_rfl) (by kernel_rfl) rfl (fun _ _ _ h => h) (Or.inl ⟨by rfl, ?hy9⟩) (by assumption) ?hr9
        case hy9 => (intro W9 hW9; obtain ⟨k0, k1⟩ := hW9; first | (go_simp; done) | (go_simp; with_reducible rfl))
        simp only [Act.put, List.getElem_toArray, List.getElem_cons_succ, List.getElem_cons_zero, List.setIfInBounds_toArray, List.set_cons_zero, List.set_cons_succ]
        refine goes_take0 (i := 9) (v := ?hv10) rfl (by kernel_rfl) (by kernel_rfl) (by kernel_rfl) rfl (fun _ _ _ h => h) (Or.inl ⟨by rfl, ?hy10⟩) (by assumption) ?hr10
        case hy10 => (intro W9 hW9; obtain ⟨k0, k1⟩ := hW9; first | (go_simp; done) | (go_simp; with_reducible rfl))
        simp only [Act.put, List.getElem_toArray, List.getElem_cons_succ, List.getElem_cons_zero, List.setIfInBounds_toArray, List.set_cons_zero, List.set_cons_succ]
        refine goes_take0 (i := 10) (v := ?hv11) rfl (by kernel_rfl) (by kernel_rfl) (by kernel_rfl) rfl (fun _ _ _ h => h) (Or.inl ⟨by rfl, ?hy11⟩) (by assumption) ?hr11
        case hy11 => (intro W9 hW9; obtain ⟨k0, k1⟩ := hW9; first | (go_simp; done) | (go_simp; with_reducible rfl))
        simp only [Act.put, List.getElem_toArray, List.getElem_cons_succ, List.getElem_cons_zero, List.setIfInBounds_toArray, List.set_cons_zero, List.set_cons_succ]
        refine goes_take0 (i := 11) (v := ?hv12) rfl (by kernel_rfl) (by kernel_rfl) (by kernel_rfl) rfl (fun _ _ _ h => h) (Or.inl ⟨by rfl, ?hy12⟩) (by assumption) ?hr12
        case hy12 => (intro W9 hW9; obtain ⟨k0, k1⟩ := hW9; first | (go_simp; done) | (go_simp; with_reducible rfl))
        simp only [Act.put, List.getElem_toArray, List.getElem_cons_succ, List.getElem_cons_zero, List.setIfInBounds_toArray, List.set_cons_zero, List.set_cons_succ]
        refine goes_take0 (i := 12) (v := (.bool false)) rfl (by kernel_rfl) (by kernel_rfl) (by kernel_rfl) rfl (fun _ _ _ h => h) (Or.inl ⟨by rfl, ?hy13⟩) (by assumption) ?hr13
        case hy13 => (intro W9 hW9; obtain ⟨k0, k1⟩ := hW9; first | (go_simp; done) | (go_simp; with_reducible rfl))
        simp only [Act.put, List.getElem_toArray, List.getElem_cons_succ, List.getElem_cons_zero, List.setIfInBounds_toArray, List.set_cons_zero, List.set_cons_succ]
        refine goes_take0 (i := 13) (v := (.bool false)) rfl (by kernel_rfl) (by kernel_rfl) (by kernel_rfl) rfl (fun _ _ _ h => h) (Or.inl ⟨by rfl, ?hy14⟩) (by assumption) ?hr14
        case hy14 => (intro W9 hW9; obtain ⟨k0, k1⟩ := hW9; first | (go_simp; done) | (go_simp; with_reducible rfl))
        simp only [Act.put, List.getElem_toArray, List.getElem_cons_succ, List.getElem_cons_zero, List.setIfInBounds_toArray, List.set_cons_zero, List.set_cons_succ]
        refine goes_take0 (i := 14) (v := (.bool false)) rfl (by kernel_rfl) (by kernel_rfl) (by kernel_rfl) rfl (fun _ _ _ h => h) (Or.inl ⟨by rfl, ?hy15⟩) (by assumption) ?hr15
        case hy15 => (intro W9 hW9; obtain ⟨k0, k1⟩ := hW9; first | (go_simp; done) | (go_simp; with_reducible rfl))
        simp only [Act.put, List.getElem_toArray, List.getElem_cons_succ, List.getElem_cons_zero, List.setIfInBounds_toArray, List.set_cons_zero, List.set_cons_succ]
        refine goes_take0 (i := 15) (v := ?hv16) rfl (by kernel_rfl) (by kernel_rfl) (by kernel_rfl) rfl (fun _ _ _ h => h) (Or.inl ⟨by rfl, ?hy16⟩) (by assumption) ?hr16
        case hy16 => (intro W9 hW9; obtain ⟨k0, k1⟩ := hW9; first | (go_simp; done) | (go_simp; with_reducible rfl))
        simp only [Act.put, List.getElem_toArray, List.getElem_cons_succ, List.getElem_cons_zero, List.setIfInBounds_toArray, List.set_cons_zero, List.set_cons_succ]
        refine goes_take0 (i := 16) (v := (.bool false)) rfl (by kernel_rfl) (by kernel_rfl) (by kernel_rfl) rfl (fun _ _ _ h => h) (Or.inl ⟨by rfl, ?hy17⟩) (by assumption) ?hr17
        case hy17 => (intro W9 hW9; obtain ⟨k0, k1⟩ := hW9; first | (go_simp; done) | (go_simp; with_reducible rfl))
        simp only [Act.put, List.getElem_toArray, List.getElem_cons_succ, List.getElem_cons_zero, List.setIfInBounds_toArray, List.set_cons_zero, List.set_cons_succ]
        refine goes_take0 (i := 17) (v := (.bool false)) rfl (by kernel_rfl) (by kernel_rfl) (by kernel_rfl) rfl (fun _ _ _ h => h) (Or.inl ⟨by rfl, ?hy18⟩) (by assumption) ?hr18
        case hy18 => (intro W9 hW9; obtain ⟨k0, k1⟩ := hW9; first | (go_simp; done) | (go_simp; with_reducible rfl))
        simp only [Act.put, List.getElem_toArray, List.getElem_cons_succ, List.getElem_cons_zero, List.setIfInBounds_toArray, List.set_cons_zero, List.set_cons_succ]
        refine goes_take0 (i := 18) (v := undef) rfl (by kernel_rfl) (by kernel_rfl) (by kernel_rfl) rfl (fun _ _ _ h => h) (Or.inr ⟨by rfl, rfl⟩) (by assumption) ?_
        simp only [Act.put, List.getElem_toArray, List.getElem_cons_succ, List.getElem_cons_zero, List.setIfInBounds_toArray, List.set_cons_zero, List.set_cons_succ]
        refine goes_take0 (i := 19) (v := undef) rfl (by kernel_rfl) (by kernel_rfl) (by kernel_rfl) rfl (fun _ _ _ h => h) (Or.inr ⟨by rfl, rfl⟩) (by assumption) ?_
        simp only [Act.put, List.getElem_toArray, List.getElem_cons_succ, List.getElem_cons_zero, List.setIfInBounds_toArray, List.set_cons_zero, List.set_cons_succ]
        refine goes_take0 (i := 20) (v := undef) rfl (by kernel_rfl) (by kernel_rfl) (by kernel_rfl) rfl (fun _ _ _ h => h) (Or.inr ⟨by rfl, rfl⟩) (by assumption) ?_
        simp only [Act.put, List.getElem_toArray, List.getElem_cons_succ, List.getElem_cons_zero, List.setIfInBounds_toArray, List.set_cons_zero, List.set_cons_succ]
        refine goes_take0 (i := 21) (v := undef) rfl (by kernel_rfl) (by kernel_rfl) (by kernel_rfl) rfl (fun _ _ _ h => h) (Or.inr ⟨by rfl, rfl⟩) (by assumption) ?_
        simp only [Act.put, List.getElem_toArray, List.getElem_cons_succ, List.getElem_cons_zero, List.setIfInBounds_toArray, List.set_cons_zero, List.set_cons_succ]
        refine goes_take0 (i := 22) (v := undef) rfl (by kernel_rfl) (by kernel_rfl) (by kernel_rfl) rfl (fun _ _ _ h => h) (Or.inr ⟨by rfl, rfl⟩) (by assumption) ?_
        simp only [Act.put, List.getElem_toArray, List.getElem_cons_succ, List.getElem_cons_zero, List.setIfInBounds_toArray, List.set_cons_zero, List.set_cons_succ]
        refine goes_take0 (i := 23) (v := undef) rfl (by kernel_rfl) (by kernel_rfl) (by kernel_rfl) rfl (fun _ _ _ h => h) (Or.inr ⟨by rfl, rfl⟩) (by assumption) ?_
        simp only [Act.put, List.getElem_toArray, List.getElem_cons_succ, List.getElem_cons_zero, List.setIfInBounds_toArray, List.set_cons_zero, List.set_cons_succ]
        refine goes_take0 (i := 24) (v := undef) rfl (by kernel_rfl) (by kernel_rfl) (by kernel_rfl) rfl (fun _ _ _ h => h) (Or.inr ⟨by rfl, rfl⟩) (by assumption) ?_
        simp only [Act.put, List.getElem_toArray, List.getElem_cons_succ, List.getElem_cons_zero, List.setIfInBounds_toArray, List.set_cons_zero, List.set_cons_succ]
        refine goes_take0 (i := 25) (v := undef) rfl (by kernel_rfl) (by kernel_rfl) (by kernel_rfl) rfl (fun _ _ _ h => h) (Or.inr ⟨by rfl, rfl⟩) (by assumption) ?_
        simp only [Act.put, List.getElem_toArray, List.getElem_cons_succ, List.getElem_cons_zero, List.setIfInBounds_toArray, List.set_cons_zero, List.set_cons_succ]
        refine goes_take0 (i := 26) (v := undef) rfl (by kernel_rfl) (by kernel_rfl) (by kernel_rfl) rfl (fun _ _ _ h => h) (Or.inr ⟨by rfl, rfl⟩) (by assumption) ?_
        simp only [Act.put, List.getElem_toArray, List.getElem_cons_succ, List.getElem_cons_zero, List.setIfInBounds_toArray, List.set_cons_zero, List.set_cons_succ]
        refine goes_take0 (i := 27) (v := undef) rfl (by kernel_rfl) (by kernel_rfl) (by kernel_rfl) rfl (fun _ _ _ h => h) (Or.inr ⟨by rfl, rfl⟩) (by assumption) ?_
        simp only [Act.put, List.getElem_toArray, List.getElem_cons_succ, List.getElem_cons_zero, List.setIfInBounds_toArray, List.set_cons_zero, List.set_cons_succ]
        refine goes_take0 (i := 28) (v := (.bool false)) rfl (by kernel_rfl) (by kernel_rfl) (by kernel_rfl) rfl (fun _ _ _ h => h) (Or.inl ⟨by rfl, ?hy19⟩) (by assumption) ?hr19
        case hy19 => (intro W9 hW9; obtain ⟨k0, k1⟩ := hW9; first | (go_simp; done) | (go_simp; with_reducible rfl))
        simp only [Act.put, List.getElem_toArray, List.getElem_cons_succ, List.getElem_cons_zero, List.setIfInBounds_toArray, List.set_cons_zero, List.set_cons_succ]
        refine goes_take0 (i := 29) (v := (.bool false)) rfl (by kernel_rfl) (by kernel_rfl) (by kernel_rfl) rfl (fun _ _ _ h => h) (Or.inl ⟨by rfl, ?hy20⟩) (by assumption) ?hr20
        case hy20 => (intro W9 hW9; obtain ⟨k0, k1⟩ := hW9; first | (go_simp; done) | (go_simp; with_reducible rfl))
        simp only [Act.put, List.getElem_toArray, List.getElem_cons_succ, List.getElem_cons_zero, List.setIfInBounds_toArray, List.set_cons_zero, List.set_cons_succ]
        refine goes_done (by kernel_rfl) ?_ _
        go_wp2
        go_roundw
        case rel => exact ⟨1, rfl, hlt, Lib.hid (HBR.out.trans ((Below.refl _ wr).drew.mono HBR.out.size))⟩
        case measure => simp [intOf]; omega
      · obtain ⟨j, hj⟩ : ∃ j, k = j + 1 := ⟨k - 1, by omega⟩
        have hjj : j < l.length := by omega
        obtain ⟨g2, e, c2⟩ := hat j hjj
        cases e
        have hxy : l[j] < l[k] := by subst hj; exact HS.out.next (i := j) hlt
        have hwr : IntKind.i64.wrap ((k : Int) - 1) = (j : Int) := by rw [IntKind.wrap_i64]; omega
        have hj1 : j < k := by omega
        clear hj hk0
        generalize l[k] = x at *
        generalize l[j] = y at *
        have e1 : decide ((x : Int) < 0) = false := decide_eq_false (by omega)
        have e2 : decide ((x : Int) ≥ cnt) = false := decide_eq_false (by omega)
        have e3 : decide ((cnt : Int) ≤ x) = false := decide_eq_false (by omega)
        have e4 : decide ((k : Int) > 0) = true := decide_eq_true (by omega)
        have e5 : decide ((0 : Int) < (k : Int)) = true := decide_eq_true (by omega)
        have e8 : 0 < k := by omega
        have e6 : decide ((x : Int) ≤ y) = false := decide_eq_false (by omega)
        have e7 : decide (x ≤ y) = false := decide_eq_false (by omega)
        clear hat
        go_wp2
        refine region_goes 130 30 rfl (fun W => W.cell? ⟨g, k, none⟩ = some (.int .i64 x) ∧ W.cell? ⟨b, 0, none⟩ = some (.int .i64 cnt) ∧ W.cell? ⟨g, j, none⟩ = some (.int .i64 y)) mixed ⟨c1, z0, c2⟩ (fun hHeld => ?_)
        refine goes_take0 (i := 0) (v := ?hv21) rfl (by kernel_rfl) (by kernel_rfl) (by kernel_rfl) rfl (fun _ _ _ h => h) (Or.inl ⟨by rfl, ?hy21⟩) (by assumption) ?hr21
        case hy21 => (intro W9 hW9; obtain ⟨k0, k1, k2⟩ := hW9; first | (go_simp; done) | (go_simp; with_reducible rfl))
        simp only [Act.put, List.getElem_toArray, List.getElem_cons_succ, List.getElem_cons_zero, List.setIfInBounds_toArray, List.set_cons_zero, List.set_cons_succ]
        refine goes_take0 (i := 1) (v := ?hv22) rfl (by kernel_rfl) (by kernel_rfl) (by kernel_rfl) rfl (fun _ _ _ h => h) (Or.inl ⟨by rfl, ?hy22⟩) (by assumption) ?hr22
        case hy22 => (intro W9 hW9; obtain ⟨k0, k1, k2⟩ := hW9; first | (go_simp; done) | (go_simp; with_reducible rfl))
        simp only [Act.put, List.getElem_toArray, List.getElem_cons_succ, List.getElem_cons_zero, List.setIfInBounds_toArray, List.set_cons_zero, List.set_cons_succ]
        refine goes_take0 (i := 2) (v := ?hv23) rfl (by kernel_rfl) (by kernel_rfl) (by kernel_rfl) rfl (fun _ _ _ h => h) (Or.inl ⟨by rfl, ?hy23⟩) (by assumption) ?hr23
        case hy23 => (intro W9 hW9; obtain ⟨k0, k1, k2⟩ := hW9; first | (go_simp; done) | (go_simp; with_reducible rfl))
        simp only [Act.put, List.getElem_toArray, List.getElem_cons_succ, List.getElem_cons_zero, List.setIfInBounds_toArray, List.set_cons_zero, List.set_cons_succ]
        refine goes_take0 (i := 3) (v := ?hv24) rfl (by kernel_rfl) (by kernel_rfl) (by kernel_rfl) rfl (fun _ _ _ h => h) (Or.inl ⟨by rfl, ?hy24⟩) (by assumption) ?hr24
        case hy24 => (intro W9 hW9; obtain ⟨k0, k1, k2⟩ := hW9; first | (go_simp; done) | (go_simp; with_reducible rfl))
        simp only [Act.put, List.getElem_toArray, List.getElem_cons_succ, List.getElem_cons_zero, List.setIfInBounds_toArray, List.set_cons_zero, List.set_cons_succ]
        refine goes_take0 (i := 4) (v := (.bool false)) rfl (by kernel_rfl) (by kernel_rfl) (by kernel_rfl) rfl (fun _ _ _ h => h) (Or.inl ⟨by rfl, ?hy25⟩) (by assumption) ?hr25
        case hy25 => (intro W9 hW9; obtain ⟨k0, k1, k2⟩ := hW9; first | (go_simp; done) | (go_simp; with_reducible rfl))
        simp only [Act.put, List.getElem_toArray, List.getElem_cons_succ, List.getElem_cons_zero, List.setIfInBounds_toArray, List.set_cons_zero, List.set_cons_succ]
        refine goes_take0 (i := 5) (v := (.bool false)) rfl (by kernel_rfl) (by kernel_rfl) (by kernel_rfl) rfl (fun _ _ _ h => h) (Or.inl ⟨by rfl, ?hy26⟩) (by assumption) ?hr26
        case hy26 => (intro W9 hW9; obtain ⟨k0, k1, k2⟩ := hW9; first | (go_simp; done) | (go_simp; with_reducible rfl))
        simp only [Act.put, List.getElem_toArray, List.getElem_cons_succ, List.getElem_cons_zero, List.setIfInBounds_toArray, List.set_cons_zero, List.set_cons_succ]
        refine goes_take0 (i := 6) (v := ?hv27) rfl (by kernel_rfl) (by kernel_rfl) (by kernel_rfl) rfl (fun _ _ _ h => h) (Or.inl ⟨by rfl, ?hy27⟩) (by assumption) ?hr27
        case hy27 => (intro W9 hW9; obtain ⟨k0, k1, k2⟩ := hW9; first | (go_simp; done) | (go_simp; with_reducible rfl))
        simp only [Act.put, List.getElem_toArray, List.getElem_cons_succ, List.getElem_cons_zero, List.setIfInBounds_toArray, List.set_cons_zero, List.set_cons_succ]
        refine goes_take0 (i := 7) (v := ?hv28) rfl (by kernel_rfl) (by kernel_rfl) (by kernel_rfl) rfl (fun _ _ _ h => h) (Or.inl ⟨by rfl, ?hy28⟩) (by assumption) ?hr28
        case hy28 => (intro W9 hW9; obtain ⟨k0, k1, k2⟩ := hW9; first | (go_simp; done) | (go_simp; with_reducible rfl))
        simp only [Act.put, List.getElem_toArray, List.getElem_cons_succ, List.getElem_cons_zero, List.setIfInBounds_toArray, List.set_cons_zero, List.set_cons_succ]
        refine goes_take0 (i := 8) (v := ?hv29) rfl (by kernel_rfl) (by kernel_rfl) (by kernel_rfl) rfl (fun _ _ _ h => h) (Or.inl ⟨by rfl, ?hy29⟩) (by assumption) ?hr29
        case hy29 => (intro W9 hW9; obtain ⟨k0, k1, k2⟩ := hW9; first | (go_simp; done) | (go_simp; with_reducible rfl))
        simp only [Act.put, List.getElem_toArray, List.getElem_cons_succ, List.getElem_cons_zero, List.setIfInBounds_toArray, List.set_cons_zero, List.set_cons_succ]
        refine goes_take0 (i := 9) (v := ?hv30) rfl (by kernel_rfl) (by kernel_rfl) (by kernel_rfl) rfl (fun _ _ _ h => h) (Or.inl ⟨by rfl, ?hy30⟩) (by assumption) ?hr30
        case hy30 => (intro W9 hW9; obtain ⟨k0, k1, k2⟩ := hW9; first | (go_simp; done) | (go_simp; with_reducible rfl))
        simp only [Act.put, List.getElem_toArray, List.getElem_cons_succ, List.getElem_cons_zero, List.setIfInBounds_toArray, List.set_cons_zero, List.set_cons_succ]
        refine goes_take0 (i := 10) (v := ?hv31) rfl (by kernel_rfl) (by kernel_rfl) (by kernel_rfl) rfl (fun _ _ _ h => h) (Or.inl ⟨by rfl, ?hy31⟩) (by assumption) ?hr31
        case hy31 => (intro W9 hW9; obtain ⟨k0, k1, k2⟩ := hW9; first | (go_simp; done) | (go_simp; with_reducible rfl))
        simp only [Act.put, List.getElem_toArray, List.getElem_cons_succ, List.getElem_cons_zero, List.setIfInBounds_toArray, List.set_cons_zero, List.set_cons_succ]
        refine goes_take0 (i := 11) (v := ?hv32) rfl (by kernel_rfl) (by kernel_rfl) (by kernel_rfl) rfl (fun _ _ _ h => h) (Or.inl ⟨by rfl, ?hy32⟩) (by assumption) ?hr32
        case hy32 => (intro W9 hW9; obtain ⟨k0, k1, k2⟩ := hW9; first | (go_simp; done) | (go_simp; with_reducible rfl))
        simp only [Act.put, List.getElem_toArray, List.getElem_cons_succ, List.getElem_cons_zero, List.setIfInBounds_toArray, List.set_cons_zero, List.set_cons_succ]
        refine goes_take0 (i := 12) (v := (.bool false)) rfl (by kernel_rfl) (by kernel_rfl) (by kernel_rfl) rfl (fun _ _ _ h => h) (Or.inl ⟨by rfl, ?hy33⟩) (by assumption) ?hr33
        case hy33 => (intro W9 hW9; obtain ⟨k0, k1, k2⟩ := hW9; first | (go_simp; done) | (go_simp; with_reducible rfl))
        simp only [Act.put, List.getElem_toArray, List.getElem_cons_succ, List.getElem_cons_zero, List.setIfInBounds_toArray, List.set_cons_zero, List.set_cons_succ]
        refine goes_take0 (i := 13) (v := (.bool false)) rfl (by kernel_rfl) (by kernel_rfl) (by kernel_rfl) rfl (fun _ _ _ h => h) (Or.inl ⟨by rfl, ?hy34⟩) (by assumption) ?hr34
        case hy34 => (intro W9 hW9; obtain ⟨k0, k1, k2⟩ := hW9; first | (go_simp; done) | (go_simp; with_reducible rfl))
        simp only [Act.put, List.getElem_toArray, List.getElem_cons_succ, List.getElem_cons_zero, List.setIfInBounds_toArray, List.set_cons_zero, List.set_cons_succ]
        refine goes_take0 (i := 14) (v := (.bool false)) rfl (by kernel_rfl) (by kernel_rfl) (by kernel_rfl) rfl (fun _ _ _ h => h) (Or.inl ⟨by rfl, ?hy35⟩) (by assumption) ?hr35
        case hy35 => (intro W9 hW9; obtain ⟨k0, k1, k2⟩ := hW9; first | (go_simp; done) | (go_simp; with_reducible rfl))
        simp only [Act.put, List.getElem_toArray, List.getElem_cons_succ, List.getElem_cons_zero, List.setIfInBounds_toArray, List.set_cons_zero, List.set_cons_succ]
        refine goes_take0 (i := 15) (v := ?hv36) rfl (by kernel_rfl) (by kernel_rfl) (by kernel_rfl) rfl (fun _ _ _ h => h) (Or.inl ⟨by rfl, ?hy36⟩) (by assumption) ?hr36
        case hy36 => (intro W9 hW9; obtain ⟨k0, k1, k2⟩ := hW9; first | (go_simp; done) | (go_simp; with_reducible rfl))
        simp only [Act.put, List.getElem_toArray, List.getElem_cons_succ, List.getElem_cons_zero, List.setIfInBounds_toArray, List.set_cons_zero, List.set_cons_succ]
        refine goes_take0 (i := 16) (v := (.bool true)) rfl (by kernel_rfl) (by kernel_rfl) (by kernel_rfl) rfl (fun _ _ _ h => h) (Or.inl ⟨by rfl, ?hy37⟩) (by assumption) ?hr37
        case hy37 => (intro W9 hW9; obtain ⟨k0, k1, k2⟩ := hW9; first | (go_simp; done) | (go_simp; with_reducible rfl))
        simp only [Act.put, List.getElem_toArray, List.getElem_cons_succ, List.getElem_cons_zero, List.setIfInBounds_toArray, List.set_cons_zero, List.set_cons_succ]
        refine goes_take0 (i := 17) (v := (.bool true)) rfl (by kernel_rfl) (by kernel_rfl) (by kernel_rfl) rfl (fun _ _ _ h => h) (Or.inl ⟨by rfl, ?hy38⟩) (by assumption) ?hr38
        case hy38 => (intro W9 hW9; obtain ⟨k0, k1, k2⟩ := hW9; first | (go_simp; done) | (go_simp; with_reducible rfl))
        simp only [Act.put, List.getElem_toArray, List.getElem_cons_succ, List.getElem_cons_zero, List.setIfInBounds_toArray, List.set_cons_zero, List.set_cons_succ]
        refine goes_take0 (i := 18) (v := ?hv39) rfl (by kernel_rfl) (by kernel_rfl) (by kernel_rfl) rfl (fun _ _ _ h => h) (Or.inl ⟨by rfl, ?hy39⟩) (by assumption) ?hr39
        case hy39 => (intro W9 hW9; obtain ⟨k0, k1, k2⟩ := hW9; first | (go_simp; done) | (go_simp; with_reducible rfl))
        simp only [Act.put, List.getElem_toArray, List.getElem_cons_succ, List.getElem_cons_zero, List.setIfInBounds_toArray, List.set_cons_zero, List.set_cons_succ]
        refine goes_take0 (i := 19) (v := ?hv40) rfl (by kernel_rfl) (by kernel_rfl) (by kernel_rfl) rfl (fun _ _ _ h => h) (Or.inl ⟨by rfl, ?hy40⟩) (by assumption) ?hr40
        case hy40 => (intro W9 hW9; obtain ⟨k0, k1, k2⟩ := hW9; first | (go_simp; done) | (go_simp; with_reducible rfl))
        simp only [Act.put, List.getElem_toArray, List.getElem_cons_succ, List.getElem_cons_zero, List.setIfInBounds_toArray, List.set_cons_zero, List.set_cons_succ]
        refine goes_take0 (i := 20) (v := ?hv41) rfl (by kernel_rfl) (by kernel_rfl) (by kernel_rfl) rfl (fun _ _ _ h => h) (Or.inl ⟨by rfl, ?hy41⟩) (by assumption) ?hr41
        case hy41 => (intro W9 hW9; obtain ⟨k0, k1, k2⟩ := hW9; first | (go_simp; done) | (go_simp; with_reducible rfl))
        simp only [Act.put, List.getElem_toArray, List.getElem_cons_succ, List.getElem_cons_zero, List.setIfInBounds_toArray, List.set_cons_zero, List.set_cons_succ]
        refine goes_take0 (i := 21) (v := ?hv42) rfl (by kernel_rfl) (by kernel_rfl) (by kernel_rfl) rfl (fun _ _ _ h => h) (Or.inl ⟨by rfl, ?hy42⟩) (by assumption) ?hr42
        case hy42 => (intro W9 hW9; obtain ⟨k0, k1, k2⟩ := hW9; first | (go_simp; done) | (go_simp; with_reducible rfl))
        simp only [Act.put, List.getElem_toArray, List.getElem_cons_succ, List.getElem_cons_zero, List.setIfInBounds_toArray, List.set_cons_zero, List.set_cons_succ]
        refine goes_take0 (i := 22) (v := ?hv43) rfl (by kernel_rfl) (by kernel_rfl) (by kernel_rfl) rfl (fun _ _ _ h => h) (Or.inl ⟨by rfl, ?hy43⟩) (by assumption) ?hr43
        case hy43 => (intro W9 hW9; obtain ⟨k0, k1, k2⟩ := hW9; first | (go_simp; done) | (go_simp; with_reducible rfl))
        simp only [Act.put, List.getElem_toArray, List.getElem_cons_succ, List.getElem_cons_zero, List.setIfInBounds_toArray, List.set_cons_zero, List.set_cons_succ]
        refine goes_take0 (i := 23) (v := ?hv44) rfl (by kernel_rfl) (by kernel_rfl) (by kernel_rfl) rfl (fun _ _ _ h => h) (Or.inl ⟨by rfl, ?hy44⟩) (by assumption) ?hr44
        case hy44 => (intro W9 hW9; obtain ⟨k0, k1, k2⟩ := hW9; first | (go_simp; done) | (go_simp; with_reducible rfl))
        simp only [Act.put, List.getElem_toArray, List.getElem_cons_succ, List.getElem_cons_zero, List.setIfInBounds_toArray, List.set_cons_zero, List.set_cons_succ]
        refine goes_take0 (i := 24) (v := (.int .i64 (j : Int))) rfl (by kernel_rfl) (by kernel_rfl) (by kernel_rfl) rfl (fun _ _ _ h => h) (Or.inl ⟨by rfl, ?hy45⟩) (by assumption) ?hr45
        case hy45 => (intro W9 hW9; obtain ⟨k0, k1, k2⟩ := hW9; first | (go_simp; done) | (go_simp; with_reducible rfl))
        simp only [Act.put, List.getElem_toArray, List.getElem_cons_succ, List.getElem_cons_zero, List.setIfInBounds_toArray, List.set_cons_zero, List.set_cons_succ]
        refine goes_take0 (i := 25) (v := ?hv46) rfl (by kernel_rfl) (by kernel_rfl) (by kernel_rfl) rfl (fun _ _ _ h => h) (Or.inl ⟨by rfl, ?hy46⟩) (by assumption) ?hr46
        case hy46 => (intro W9 hW9; obtain ⟨k0, k1, k2⟩ := hW9; first | (go_simp; done) | (go_simp; with_reducible rfl))
        simp only [Act.put, List.getElem_toArray, List.getElem_cons_succ, List.getElem_cons_zero, List.setIfInBounds_toArray, List.set_cons_zero, List.set_cons_succ]
        refine goes_take0 (i := 26) (v := ?hv47) rfl (by kernel_rfl) (by kernel_rfl) (by kernel_rfl) rfl (fun _ _ _ h => h) (Or.inl ⟨by rfl, ?hy47⟩) (by assumption) ?hr47
        case hy47 => (intro W9 hW9; obtain ⟨k0, k1, k2⟩ := hW9; first | (go_simp; done) | (go_simp; with_reducible rfl))
        simp only [Act.put, List.getElem_toArray, List.getElem_cons_succ, List.getElem_cons_zero, List.setIfInBounds_toArray, List.set_cons_zero, List.set_cons_succ]
        refine goes_take0 (i := 27) (v := (.bool false)) rfl (by kernel_rfl) (by kernel_rfl) (by kernel_rfl) rfl (fun _ _ _ h => h) (Or.inl ⟨by rfl, ?hy48⟩) (by assumption) ?hr48
        case hy48 => (intro W9 hW9; obtain ⟨k0, k1, k2⟩ := hW9; first | (go_simp; done) | (go_simp; with_reducible rfl))
        simp only [Act.put, List.getElem_toArray, List.getElem_cons_succ, List.getElem_cons_zero, List.setIfInBounds_toArray, List.set_cons_zero, List.set_cons_succ]
        refine goes_take0 (i := 28) (v := (.bool false)) rfl (by kernel_rfl) (by kernel_rfl) (by kernel_rfl) rfl (fun _ _ _ h => h) (Or.inl ⟨by rfl, ?hy49⟩) (by assumption) ?hr49
        case hy49 => (intro W9 hW9; obtain ⟨k0, k1, k2⟩ := hW9; first | (go_simp; done) | (go_simp; with_reducible rfl))
        simp only [Act.put, List.getElem_toArray, List.getElem_cons_succ, List.getElem_cons_zero, List.setIfInBounds_toArray, List.set_cons_zero, List.set_cons_succ]
        refine goes_take0 (i := 29) (v := (.bool false)) rfl (by kernel_rfl) (by kernel_rfl) (by kernel_rfl) rfl (fun _ _ _ h => h) (Or.inl ⟨by rfl, ?hy50⟩) (by assumption) ?hr50
        case hy50 => (intro W9 hW9; obtain ⟨k0, k1, k2⟩ := hW9; first | (go_simp; done) | (go_simp; with_reducible rfl))
        simp only [Act.put, List.getElem_toArray, List.getElem_cons_succ, List.getElem_cons_zero, List.setIfInBounds_toArray, List.set_cons_zero, List.set_cons_succ]
        refine goes_done (by kernel_rfl) ?_ _
        go_wp2
        go_roundw
        case rel => exact ⟨k + 1, num_succ _, hlt, Lib.hid (HBR.out.trans ((Below.refl _ wr).drew.mono HBR.out.size))⟩
        case measure => simp [intOf]; omega
    · have hdd : decide ((k : Int) < l.length) = false := decide_eq_false (by omega)
      have hdn : decide (k < l.length) = false := decide_eq_false hlt
      clear hlt
      go_wp2
      clear hdn
      go_loopw [10] (fun x wr => ∃ k : Nat, x = .int .i64 k ∧ k ≤ L.length ∧ Hid (Below w5.heap.size w5 wr)) (fun x _ => L.length - (intOf x).toNat)
      case atStart => exact ⟨0, rfl, Nat.zero_le _, HBR⟩
      case round =>
        clear HBR hdd hk
        obtain ⟨k, rfl, hk, HBR⟩ := hrel
        by_cases hlt : k < L.length
        · have hdd : decide ((k : Int) < L.length) = true := decide_eq_true (by omega)
          have hzL : L[k] ∈ L := List.getElem_mem hlt
          have HZ := Lib.hid (HS.out.has hzL)
          have HVK := Lib.hid (show ∀ wr, Below w5.heap.size w5 wr → ∃ bl ol, a = some ⟨bl, ol, none⟩ ∧ wr.cell? ⟨bl, ol + k, none⟩ = some (.int .i64 L[k]) from fun wr hb => by
            obtain ⟨a', c', e, h1⟩ := HV.out wr (HW5.out.trans (hb.mono HW5.out.size))
            cases e
            obtain ⟨bl, ol, e2, h2⟩ := h1 k hlt
            exact ⟨bl, ol, e2, h2⟩)
          obtain ⟨bl, ol, rfl, _⟩ := HVK.out wr HBR.out
          have HVC := Lib.hid (show ∀ wr, Below w5.heap.size w5 wr → wr.cell? ⟨bl, ol + k, none⟩ = some (.int .i64 L[k]) from fun wr hb => by
            obtain ⟨b', o', e, h1⟩ := HVK.out wr hb
            cases e; exact h1)
          clear HVK hzL
          generalize L[k] = z at *
          have HIN0 : Hid (decide (z ∈ (l.take 0).map fun x : Nat => (x : Int)) = false) := Lib.hid (by simp)
          go_wp2
          go_loopw [11, 12] (fun v x wr => ∃ (m : Nat) (q : Bool), x = .int .i64 m ∧ v = .bool q ∧ m ≤ l.length ∧ Hid (decide (z ∈ (l.take m).map fun x : Nat => (x : Int)) = q) ∧ Hid (Below w5.heap.size w5 wr)) (fun _ x _ => l.length - (intOf x).toNat)
          case atStart => exact ⟨0, false, rfl, rfl, Nat.zero_le _, HIN0, HBR⟩
          case round =>
            clear HBR HIN0
            obtain ⟨m, q, rfl, rfl, hm, HIN, HBR⟩ := hrel
            have cz := HVC.out wr HBR.out
            by_cases hltm : m < l.length
            · have hddm : decide ((m : Int) < l.length) = true := decide_eq_true (by omega)
              obtain ⟨ac', cc', e, hat⟩ := row_at (HC5.out wr HBR.out) rfl
              cases e
              obtain ⟨g, rfl, cm⟩ := hat m hltm
              have HTI := Lib.hid (take_in hltm z)
              rw [HIN.out] at HTI
              clear hat
              generalize l[m] = y at *
              cases q
              · by_cases hyz : (y : Int) = z
                · have hbb : ((y : Int) == z) = true := by simpa using hyz
                  have HTN : Hid (decide (z ∈ (l.take (m + 1)).map fun x : Nat => (x : Int)) = true) := Lib.hid (by rw [HTI.out]; simp [hyz])
                  clear HIN HTI hyz
                  go_wp2
                  refine region_goes 113 13 rfl (fun W => W.cell? ⟨g, m, none⟩ = some (.int .i64 y) ∧ W.cell? ⟨bl, ol + k, none⟩ = some (.int .i64 z)) mixed ⟨cm, cz⟩ (fun hHeld => ?_)
                  refine goes_take0 (i := 0) (v := (.bool false)) rfl (by kernel_rfl) (by kernel_rfl) (by kernel_rfl) rfl (fun _ _ _ h => h) (Or.inl ⟨by rfl, ?hy51⟩) (by assumption) ?hr51
                  case hy51 => (intro W9 hW9; obtain ⟨k0, k1⟩ := hW9; first | (go_simp; done) | (go_simp; with_reducible rfl))
                  simp only [Act.put, List.getElem_toArray, List.getElem_cons_succ, List.getElem_cons_zero, List.setIfInBounds_toArray, List.set_cons_zero, List.set_cons_succ]
                  refine goes_take0 (i := 1) (v := (.bool false)) rfl (by kernel_rfl) (by kernel_rfl) (by kernel_rfl) rfl (fun _ _ _ h => h) (Or.inl ⟨by rfl, ?hy52⟩) (by assumption) ?hr52
                  case hy52 => (intro W9 hW9; obtain ⟨k0, k1⟩ := hW9; first | (go_simp; done) | (go_simp; with_reducible rfl))
                  simp only [Act.put, List.getElem_toArray, List.getElem_cons_succ, List.getElem_cons_zero, List.setIfInBounds_toArray, List.set_cons_zero, List.set_cons_succ]
                  refine goes_take0 (i := 2) (v := ?hv53) rfl (by kernel_rfl) (by kernel_rfl) (by kernel_rfl) rfl (fun _ _ _ h => h) (Or.inl ⟨by rfl, ?hy53⟩) (by assumption) ?hr53
                  case hy53 => (intro W9 hW9; obtain ⟨k0, k1⟩ := hW9; first | (go_simp; done) | (go_simp; with_reducible rfl))
                  simp only [Act.put, List.getElem_toArray, List.getElem_cons_succ, List.getElem_cons_zero, List.setIfInBounds_toArray, List.set_cons_zero, List.set_cons_succ]
                  refine goes_take0 (i := 3) (v := ?hv54) rfl (by kernel_rfl) (by kernel_rfl) (by kernel_rfl) rfl (fun _ _ _ h => h) (Or.inl ⟨by rfl, ?hy54⟩) (by assumption) ?hr54
                  case hy54 => (intro W9 hW9; obtain ⟨k0, k1⟩ := hW9; first | (go_simp; done) | (go_simp; with_reducible rfl))
                  simp only [Act.put, List.getElem_toArray, List.getElem_cons_succ, List.getElem_cons_zero, List.setIfInBounds_toArray, List.set_cons_zero, List.set_cons_succ]
                  refine goes_take0 (i := 4) (v := ?hv55) rfl (by kernel_rfl) (by kernel_rfl) (by kernel_rfl) rfl (fun _ _ _ h => h) (Or.inl ⟨by rfl, ?hy55⟩) (by assumption) ?hr55
                  case hy55 => (intro W9 hW9; obtain ⟨k0, k1⟩ := hW9; first | (go_simp; done) | (go_simp; with_reducible rfl))
                  simp only [Act.put, List.getElem_toArray, List.getElem_cons_succ, List.getElem_cons_zero, List.setIfInBounds_toArray, List.set_cons_zero, List.set_cons_succ]
                  refine goes_take0 (i := 5) (v := ?hv56) rfl (by kernel_rfl) (by kernel_rfl) (by kernel_rfl) rfl (fun _ _ _ h => h) (Or.inl ⟨by rfl, ?hy56⟩) (by assumption) ?hr56
                  case hy56 => (intro W9 hW9; obtain ⟨k0, k1⟩ := hW9; first | (go_simp; done) | (go_simp; with_reducible rfl))
                  simp only [Act.put, List.getElem_toArray, List.getElem_cons_succ, List.getElem_cons_zero, List.setIfInBounds_toArray, List.set_cons_zero, List.set_cons_succ]
                  refine goes_take0 (i := 6) (v := ?hv57) rfl (by kernel_rfl) (by kernel_rfl) (by kernel_rfl) rfl (fun _ _ _ h => h) (Or.inl ⟨by rfl, ?hy57⟩) (by assumption) ?hr57
                  case hy57 => (intro W9 hW9; obtain ⟨k0, k1⟩ := hW9; first | (go_simp; done) | (go_simp; with_reducible rfl))
                  simp only [Act.put, List.getElem_toArray, List.getElem_cons_succ, List.getElem_cons_zero, List.setIfInBounds_toArray, List.set_cons_zero, List.set_cons_succ]
                  refine goes_take0 (i := 7) (v := ?hv58) rfl (by kernel_rfl) (by kernel_rfl) (by kernel_rfl) rfl (fun _ _ _ h => h) (Or.inl ⟨by rfl, ?hy58⟩) (by assumption) ?hr58
                  case hy58 => (intro W9 hW9; obtain ⟨k0, k1⟩ := hW9; first | (go_simp; done) | (go_simp; with_reducible rfl))
                  simp only [Act.put, List.getElem_toArray, List.getElem_cons_succ, List.getElem_cons_zero, List.setIfInBounds_toArray, List.set_cons_zero, List.set_cons_succ]
                  refine goes_take0 (i := 8) (v := ?hv59) rfl (by kernel_rfl) (by kernel_rfl) (by kernel_rfl) rfl (fun _ _ _ h => h) (Or.inl ⟨by rfl, ?hy59⟩) (by assumption) ?hr59
                  case hy59 => (intro W9 hW9; obtain ⟨k0, k1⟩ := hW9; first | (go_simp; done) | (go_simp; with_reducible rfl))
                  simp only [Act.put, List.getElem_toArray, List.getElem_cons_succ, List.getElem_cons_zero, List.setIfInBounds_toArray, List.set_cons_zero, List.set_cons_succ]
                  refine goes_take0 (i := 9) (v := ?hv60) rfl (by kernel_rfl) (by kernel_rfl) (by kernel_rfl) rfl (fun _ _ _ h => h) (Or.inl ⟨by rfl, ?hy60⟩) (by assumption) ?hr60
                  case hy60 => (intro W9 hW9; obtain ⟨k0, k1⟩ := hW9; first | (go_simp; done) | (go_simp; with_reducible rfl))
                  simp only [Act.put, List.getElem_toArray, List.getElem_cons_succ, List.getElem_cons_zero, List.setIfInBounds_toArray, List.set_cons_zero, List.set_cons_succ]
                  refine goes_take0 (i := 10) (v := (.bool true)) rfl (by kernel_rfl) (by kernel_rfl) (by kernel_rfl) rfl (fun _ _ _ h => h) (Or.inl ⟨by rfl, ?hy61⟩) (by assumption) ?hr61
                  case hy61 => (intro W9 hW9; obtain ⟨k0, k1⟩ := hW9; first | (go_simp; done) | (go_simp; with_reducible rfl))
                  simp only [Act.put, List.getElem_toArray, List.getElem_cons_succ, List.getElem_cons_zero, List.setIfInBounds_toArray, List.set_cons_zero, List.set_cons_succ]
                  refine goes_take0 (i := 11) (v := (.bool true)) rfl (by kernel_rfl) (by kernel_rfl) (by kernel_rfl) rfl (fun _ _ _ h => h) (Or.inl ⟨by rfl, ?hy62⟩) (by assumption) ?hr62
                  case hy62 => (intro W9 hW9; obtain ⟨k0, k1⟩ := hW9; first | (go_simp; done) | (go_simp; with_reducible rfl))
                  simp only [Act.put, List.getElem_toArray, List.getElem_cons_succ, List.getElem_cons_zero, List.setIfInBounds_toArray, List.set_cons_zero, List.set_cons_succ]
                  refine goes_take0 (i := 12) (v := (.bool true)) rfl (by kernel_rfl) (by kernel_rfl) (by kernel_rfl) rfl (fun _ _ _ h => h) (Or.inl ⟨by rfl, ?hy63⟩) (by assumption) ?hr63
                  case hy63 => (intro W9 hW9; obtain ⟨k0, k1⟩ := hW9; first | (go_simp; done) | (go_simp; with_reducible rfl))
                  simp only [Act.put, List.getElem_toArray, List.getElem_cons_succ, List.getElem_cons_zero, List.setIfInBounds_toArray, List.set_cons_zero, List.set_cons_succ]
                  refine goes_done (by kernel_rfl) ?_ _
                  go_wp2
                  go_roundw
                  case rel => exact ⟨m + 1, true, num_succ m, rfl, hltm, HTN, Lib.hid (HBR.out.trans ((Below.refl _ wr).drew.mono HBR.out.size))⟩
                  case measure => simp [intOf]; omega
                · have hbb : ((y : Int) == z) = false := by simpa using hyz
                  have HTN : Hid (decide (z ∈ (l.take (m + 1)).map fun x : Nat => (x : Int)) = false) := Lib.hid (by rw [HTI.out]; simp [hyz])
                  clear HIN HTI hyz
                  go_wp2
                  refine region_goes 113 13 rfl (fun W => W.cell? ⟨g, m, none⟩ = some (.int .i64 y) ∧ W.cell? ⟨bl, ol + k, none⟩ = some (.int .i64 z)) mixed ⟨cm, cz⟩ (fun hHeld => ?_)
                  refine goes_take0 (i := 0) (v := (.bool false)) rfl (by kernel_rfl) (by kernel_rfl) (by kernel_rfl) rfl (fun _ _ _ h => h) (Or.inl ⟨by rfl, ?hy64⟩) (by assumption) ?hr64
                  case hy64 => (intro W9 hW9; obtain ⟨k0, k1⟩ := hW9; first | (go_simp; done) | (go_simp; with_reducible rfl))
                  simp only [Act.put, List.getElem_toArray, List.getElem_cons_succ, List.getElem_cons_zero, List.setIfInBounds_toArray, List.set_cons_zero, List.set_cons_succ]
                  refine goes_take0 (i := 1) (v := (.bool false)) rfl (by kernel_rfl) (by kernel_rfl) (by kernel_rfl) rfl (fun _ _ _ h => h) (Or.inl ⟨by rfl, ?hy65⟩) (by assumption) ?hr65
                  case hy65 => (intro W9 hW9; obtain ⟨k0, k1⟩ := hW9; first | (go_simp; done) | (go_simp; with_reducible rfl))
                  simp only [Act.put, List.getElem_toArray, List.getElem_cons_succ, List.getElem_cons_zero, List.setIfInBounds_toArray, List.set_cons_zero, List.set_cons_succ]
                  refine goes_take0 (i := 2) (v := ?hv66) rfl (by kernel_rfl) (by kernel_rfl) (by kernel_rfl) rfl (fun _ _ _ h => h) (Or.inl ⟨by rfl, ?hy66⟩) (by assumption) ?hr66
                  case hy66 => (intro W9 hW9; obtain ⟨k0, k1⟩ := hW9; first | (go_simp; done) | (go_simp; with_reducible rfl))
                  simp only [Act.put, List.getElem_toArray, List.getElem_cons_succ, List.getElem_cons_zero, List.setIfInBounds_toArray, List.set_cons_zero, List.set_cons_succ]
                  refine goes_take0 (i := 3) (v := ?hv67) rfl (by kernel_rfl) (by kernel_rfl) (by kernel_rfl) rfl (fun _ _ _ h => h) (Or.inl ⟨by rfl, ?hy67⟩) (by assumption) ?hr67
                  case hy67 => (intro W9 hW9; obtain ⟨k0, k1⟩ := hW9; first | (go_simp; done) | (go_simp; with_reducible rfl))
                  simp only [Act.put, List.getElem_toArray, List.getElem_cons_succ, List.getElem_cons_zero, List.setIfInBounds_toArray, List.set_cons_zero, List.set_cons_succ]
                  refine goes_take0 (i := 4) (v := ?hv68) rfl (by kernel_rfl) (by kernel_rfl) (by kernel_rfl) rfl (fun _ _ _ h => h) (Or.inl ⟨by rfl, ?hy68⟩) (by assumption) ?hr68
                  case hy68 => (intro W9 hW9; obtain ⟨k0, k1⟩ := hW9; first | (go_simp; done) | (go_simp; with_reducible rfl))
                  simp only [Act.put, List.getElem_toArray, List.getElem_cons_succ, List.getElem_cons_zero, List.setIfInBounds_toArray, List.set_cons_zero, List.set_cons_succ]
                  refine goes_take0 (i := 5) (v := ?hv69) rfl (by kernel_rfl) (by kernel_rfl) (by kernel_rfl) rfl (fun _ _ _ h => h) (Or.inl ⟨by rfl, ?hy69⟩) (by assumption) ?hr69
                  case hy69 => (intro W9 hW9; obtain ⟨k0, k1⟩ := hW9; first | (go_simp; done) | (go_simp; with_reducible rfl))
                  simp only [Act.put, List.getElem_toArray, List.getElem_cons_succ, List.getElem_cons_zero, List.setIfInBounds_toArray, List.set_cons_zero, List.set_cons_succ]
                  refine goes_take0 (i := 6) (v := ?hv70) rfl (by kernel_rfl) (by kernel_rfl) (by kernel_rfl) rfl (fun _ _ _ h => h) (Or.inl ⟨by rfl, ?hy70⟩) (by assumption) ?hr70
                  case hy70 => (intro W9 hW9; obtain ⟨k0, k1⟩ := hW9; first | (go_simp; done) | (go_simp; with_reducible rfl))
                  simp only [Act.put, List.getElem_toArray, List.getElem_cons_succ, List.getElem_cons_zero, List.setIfInBounds_toArray, List.set_cons_zero, List.set_cons_succ]
                  refine goes_take0 (i := 7) (v := ?hv71) rfl (by kernel_rfl) (by kernel_rfl) (by kernel_rfl) rfl (fun _ _ _ h => h) (Or.inl ⟨by rfl, ?hy71⟩) (by assumption) ?hr71
                  case hy71 => (intro W9 hW9; obtain ⟨k0, k1⟩ := hW9; first | (go_simp; done) | (go_simp; with_reducible rfl))
                  simp only [Act.put, List.getElem_toArray, List.getElem_cons_succ, List.getElem_cons_zero, List.setIfInBounds_toArray, List.set_cons_zero, List.set_cons_succ]
                  refine goes_take0 (i := 8) (v := ?hv72) rfl (by kernel_rfl) (by kernel_rfl) (by kernel_rfl) rfl (fun _ _ _ h => h) (Or.inl ⟨by rfl, ?hy72⟩) (by assumption) ?hr72
                  case hy72 => (intro W9 hW9; obtain ⟨k0, k1⟩ := hW9; first | (go_simp; done) | (go_simp; with_reducible rfl))
                  simp only [Act.put, List.getElem_toArray, List.getElem_cons_succ, List.getElem_cons_zero, List.setIfInBounds_toArray, List.set_cons_zero, List.set_cons_succ]
                  refine goes_take0 (i := 9) (v := ?hv73) rfl (by kernel_rfl) (by kernel_rfl) (by kernel_rfl) rfl (fun _ _ _ h => h) (Or.inl ⟨by rfl, ?hy73⟩) (by assumption) ?hr73
                  case hy73 => (intro W9 hW9; obtain ⟨k0, k1⟩ := hW9; first | (go_simp; done) | (go_simp; with_reducible rfl))
                  simp only [Act.put, List.getElem_toArray, List.getElem_cons_succ, List.getElem_cons_zero, List.setIfInBounds_toArray, List.set_cons_zero, List.set_cons_succ]
                  refine goes_take0 (i := 10) (v := (.bool false)) rfl (by kernel_rfl) (by kernel_rfl) (by kernel_rfl) rfl (fun _ _ _ h => h) (Or.inl ⟨by rfl, ?hy74⟩) (by assumption) ?hr74
                  case hy74 => (intro W9 hW9; obtain ⟨k0, k1⟩ := hW9; first | (go_simp; done) | (go_simp; with_reducible rfl))
                  simp only [Act.put, List.getElem_toArray, List.getElem_cons_succ, List.getElem_cons_zero, List.setIfInBounds_toArray, List.set_cons_zero, List.set_cons_succ]
                  refine goes_take0 (i := 11) (v := (.bool false)) rfl (by kernel_rfl) (by kernel_rfl) (by kernel_rfl) rfl (fun _ _ _ h => h) (Or.inl ⟨by rfl, ?hy75⟩) (by assumption) ?hr75
                  case hy75 => (intro W9 hW9; obtain ⟨k0, k1⟩ := hW9; first | (go_simp; done) | (go_simp; with_reducible rfl))
                  simp only [Act.put, List.getElem_toArray, List.getElem_cons_succ, List.getElem_cons_zero, List.setIfInBounds_toArray, List.set_cons_zero, List.set_cons_succ]
                  refine goes_take0 (i := 12) (v := (.bool false)) rfl (by kernel_rfl) (by kernel_rfl) (by kernel_rfl) rfl (fun _ _ _ h => h) (Or.inl ⟨by rfl, ?hy76⟩) (by assumption) ?hr76
                  case hy76 => (intro W9 hW9; obtain ⟨k0, k1⟩ := hW9; first | (go_simp; done) | (go_simp; with_reducible rfl))
                  simp only [Act.put, List.getElem_toArray, List.getElem_cons_succ, List.getElem_cons_zero, List.setIfInBounds_toArray, List.set_cons_zero, List.set_cons_succ]
                  refine goes_done (by kernel_rfl) ?_ _
                  go_wp2
                  go_roundw
                  case rel => exact ⟨m + 1, false, num_succ m, rfl, hltm, HTN, Lib.hid (HBR.out.trans ((Below.refl _ wr).drew.mono HBR.out.size))⟩
                  case measure => simp [intOf]; omega
              · have HTN : Hid (decide (z ∈ (l.take (m + 1)).map fun x : Nat => (x : Int)) = true) := Lib.hid (by rw [HTI.out]; simp)
                clear HIN HTI
                go_wp2
                refine region_goes 113 13 rfl (fun W => W.cell? ⟨g, m, none⟩ = some (.int .i64 y) ∧ W.cell? ⟨bl, ol + k, none⟩ = some (.int .i64 z)) mixed ⟨cm, cz⟩ (fun hHeld => ?_)
                refine goes_take0 (i := 0) (v := (.bool true)) rfl (by kernel_rfl) (by kernel_rfl) (by kernel_rfl) rfl (fun _ _ _ h => h) (Or.inl ⟨by rfl, ?hy77⟩) (by assumption) ?hr77
                case hy77 => (intro W9 hW9; obtain ⟨k0, k1⟩ := hW9; first | (go_simp; done) | (go_simp; with_reducible rfl))
                simp only [Act.put, List.getElem_toArray, List.getElem_cons_succ, List.getElem_cons_zero, List.setIfInBounds_toArray, List.set_cons_zero, List.set_cons_succ]
                refine goes_take0 (i := 1) (v := (.bool true)) rfl (by kernel_rfl) (by kernel_rfl) (by kernel_rfl) rfl (fun _ _ _ h => h) (Or.inl ⟨by rfl, ?hy78⟩) (by assumption) ?hr78
                case hy78 => (intro W9 hW9; obtain ⟨k0, k1⟩ := hW9; first | (go_simp; done) | (go_simp; with_reducible rfl))
                simp only [Act.put, List.getElem_toArray, List.getElem_cons_succ, List.getElem_cons_zero, List.setIfInBounds_toArray, List.set_cons_zero, List.set_cons_succ]
                refine goes_take0 (i := 2) (v := undef) rfl (by kernel_rfl) (by kernel_rfl) (by kernel_rfl) rfl (fun _ _ _ h => h) (Or.inr ⟨by rfl, rfl⟩) (by assumption) ?_
                simp only [Act.put, List.getElem_toArray, List.getElem_cons_succ, List.getElem_cons_zero, List.setIfInBounds_toArray, List.set_cons_zero, List.set_cons_succ]
                refine goes_take0 (i := 3) (v := undef) rfl (by kernel_rfl) (by kernel_rfl) (by kernel_rfl) rfl (fun _ _ _ h => h) (Or.inr ⟨by rfl, rfl⟩) (by assumption) ?_
                simp only [Act.put, List.getElem_toArray, List.getElem_cons_succ, List.getElem_cons_zero, List.setIfInBounds_toArray, List.set_cons_zero, List.set_cons_succ]
                refine goes_take0 (i := 4) (v := undef) rfl (by kernel_rfl) (by kernel_rfl) (by kernel_rfl) rfl (fun _ _ _ h => h) (Or.inr ⟨by rfl, rfl⟩) (by assumption) ?_
                simp only [Act.put, List.getElem_toArray, List.getElem_cons_succ, List.getElem_cons_zero, List.setIfInBounds_toArray, List.set_cons_zero, List.set_cons_succ]
                refine goes_take0 (i := 5) (v := undef) rfl (by kernel_rfl) (by kernel_rfl) (by kernel_rfl) rfl (fun _ _ _ h => h) (Or.inr ⟨by rfl, rfl⟩) (by assumption) ?_
                simp only [Act.put, List.getElem_toArray, List.getElem_cons_succ, List.getElem_cons_zero, List.setIfInBounds_toArray, List.set_cons_zero, List.set_cons_succ]
                refine goes_take0 (i := 6) (v := undef) rfl (by kernel_rfl) (by kernel_rfl) (by kernel_rfl) rfl (fun _ _ _ h => h) (Or.inr ⟨by rfl, rfl⟩) (by assumption) ?_
                simp only [Act.put, List.getElem_toArray, List.getElem_cons_succ, List.getElem_cons_zero, List.setIfInBounds_toArray, List.set_cons_zero, List.set_cons_succ]
                refine goes_take0 (i := 7) (v := undef) rfl (by kernel_rfl) (by kernel_rfl) (by kernel_rfl) rfl (fun _ _ _ h => h) (Or.inr ⟨by rfl, rfl⟩) (by assumption) ?_
                simp only [Act.put, List.getElem_toArray, List.getElem_cons_succ, List.getElem_cons_zero, List.setIfInBounds_toArray, List.set_cons_zero, List.set_cons_succ]
                refine goes_take0 (i := 8) (v := undef) rfl (by kernel_rfl) (by kernel_rfl) (by kernel_rfl) rfl (fun _ _ _ h => h) (Or.inr ⟨by rfl, rfl⟩) (by assumption) ?_
                simp only [Act.put, List.getElem_toArray, List.getElem_cons_succ, List.getElem_cons_zero, List.setIfInBounds_toArray, List.set_cons_zero, List.set_cons_succ]
                refine goes_take0 (i := 9) (v := undef) rfl (by kernel_rfl) (by kernel_rfl) (by kernel_rfl) rfl (fun _ _ _ h => h) (Or.inr ⟨by rfl, rfl⟩) (by assumption) ?_
                simp only [Act.put, List.getElem_toArray, List.getElem_cons_succ, List.getElem_cons_zero, List.setIfInBounds_toArray, List.set_cons_zero, List.set_cons_succ]
                refine goes_take0 (i := 10) (v := undef) rfl (by kernel_rfl) (by kernel_rfl) (by kernel_rfl) rfl (fun _ _ _ h => h) (Or.inr ⟨by rfl, rfl⟩) (by assumption) ?_
                simp only [Act.put, List.getElem_toArray, List.getElem_cons_succ, List.getElem_cons_zero, List.setIfInBounds_toArray, List.set_cons_zero, List.set_cons_succ]
                refine goes_take0 (i := 11) (v := (.bool true)) rfl (by kernel_rfl) (by kernel_rfl) (by kernel_rfl) rfl (fun _ _ _ h => h) (Or.inl ⟨by rfl, ?hy79⟩) (by assumption) ?hr79
                case hy79 => (intro W9 hW9; obtain ⟨k0, k1⟩ := hW9; first | (go_simp; done) | (go_simp; with_reducible rfl))
                simp only [Act.put, List.getElem_toArray, List.getElem_cons_succ, List.getElem_cons_zero, List.setIfInBounds_toArray, List.set_cons_zero, List.set_cons_succ]
                refine goes_take0 (i := 12) (v := (.bool true)) rfl (by kernel_rfl) (by kernel_rfl) (by kernel_rfl) rfl (fun _ _ _ h => h) (Or.inl ⟨by rfl, ?hy80⟩) (by assumption) ?hr80
                case hy80 => (intro W9 hW9; obtain ⟨k0, k1⟩ := hW9; first | (go_simp; done) | (go_simp; with_reducible rfl))
                simp only [Act.put, List.getElem_toArray, List.getElem_cons_succ, List.getElem_cons_zero, List.setIfInBounds_toArray, List.set_cons_zero, List.set_cons_succ]
                refine goes_done (by kernel_rfl) ?_ _
                go_wp2
                go_roundw
                case rel => exact ⟨m + 1, true, num_succ m, rfl, hltm, HTN, Lib.hid (HBR.out.trans ((Below.refl _ wr).drew.mono HBR.out.size))⟩
                case measure => simp [intOf]; omega
            · have hddm : decide ((m : Int) < l.length) = false := decide_eq_false (by omega)
              obtain rfl : m = l.length := by omega
              rw [List.take_length, HZ.out] at HIN
              obtain ⟨z0, _⟩ := (HX5.out wr HBR.out).cells
              have hdn : decide (l.length < l.length) = false := by simp
              clear hltm HZ
              by_cases h0 : 0 ≤ z
              · have f1 : decide (z ≥ 0) = true := decide_eq_true (by omega)
                have f2 : decide (0 ≤ z) = true := decide_eq_true h0
                by_cases h1 : z < cnt
                · have f3 : decide (z < (cnt : Int)) = true := decide_eq_true h1
                  obtain rfl : true = q := by rw [← HIN.out, f2, f3]; rfl
                  clear HIN
                  go_wp2
                  refine region_goes 116 16 rfl (fun W => W.cell? ⟨b, 0, none⟩ = some (.int .i64 cnt) ∧ W.cell? ⟨bl, ol + k, none⟩ = some (.int .i64 z)) mixed ⟨z0, cz⟩ (fun hHeld => ?_)
                  refine goes_take0 (i := 0) (v := (.bool true)) rfl (by kernel_rfl) (by kernel_rfl) (by kernel_rfl) rfl (fun _ _ _ h => h) (Or.inl ⟨by rfl, ?hy81⟩) (by assumption) ?hr81
                  case hy81 => (intro W9 hW9; obtain ⟨k0, k1⟩ := hW9; first | (go_simp; done) | (go_simp; with_reducible rfl))
                  simp only [Act.put, List.getElem_toArray, List.getElem_cons_succ, List.getElem_cons_zero, List.setIfInBounds_toArray, List.set_cons_zero, List.set_cons_succ]
                  refine goes_take0 (i := 1) (v := ?hv82) rfl (by kernel_rfl) (by kernel_rfl) (by kernel_rfl) rfl (fun _ _ _ h => h) (Or.inl ⟨by rfl, ?hy82⟩) (by assumption) ?hr82
                  case hy82 => (intro W9 hW9; obtain ⟨k0, k1⟩ := hW9; first | (go_simp; done) | (go_simp; with_reducible rfl))
                  simp only [Act.put, List.getElem_toArray, List.getElem_cons_succ, List.getElem_cons_zero, List.setIfInBounds_toArray, List.set_cons_zero, List.set_cons_succ]
                  refine goes_take0 (i := 2) (v := ?hv83) rfl (by kernel_rfl) (by kernel_rfl) (by kernel_rfl) rfl (fun _ _ _ h => h) (Or.inl ⟨by rfl, ?hy83⟩) (by assumption) ?hr83
                  case hy83 => (intro W9 hW9; obtain ⟨k0, k1⟩ := hW9; first | (go_simp; done) | (go_simp; with_reducible rfl))
                  simp only [Act.put, List.getElem_toArray, List.getElem_cons_succ, List.getElem_cons_zero, List.setIfInBounds_toArray, List.set_cons_zero, List.set_cons_succ]
                  refine goes_take0 (i := 3) (v := ?hv84) rfl (by kernel_rfl) (by kernel_rfl) (by kernel_rfl) rfl (fun _ _ _ h => h) (Or.inl ⟨by rfl, ?hy84⟩) (by assumption) ?hr84
                  case hy84 => (intro W9 hW9; obtain ⟨k0, k1⟩ := hW9; first | (go_simp; done) | (go_simp; with_reducible rfl))
                  simp only [Act.put, List.getElem_toArray, List.getElem_cons_succ, List.getElem_cons_zero, List.setIfInBounds_toArray, List.set_cons_zero, List.set_cons_succ]
                  refine goes_take0 (i := 4) (v := ?hv85) rfl (by kernel_rfl) (by kernel_rfl) (by kernel_rfl) rfl (fun _ _ _ h => h) (Or.inl ⟨by rfl, ?hy85⟩) (by assumption) ?hr85
                  case hy85 => (intro W9 hW9; obtain ⟨k0, k1⟩ := hW9; first | (go_simp; done) | (go_simp; with_reducible rfl))
                  simp only [Act.put, List.getElem_toArray, List.getElem_cons_succ, List.getElem_cons_zero, List.setIfInBounds_toArray, List.set_cons_zero, List.set_cons_succ]
                  refine goes_take0 (i := 5) (v := (.bool true)) rfl (by kernel_rfl) (by kernel_rfl) (by kernel_rfl) rfl (fun _ _ _ h => h) (Or.inl ⟨by rfl, ?hy86⟩) (by assumption) ?hr86
                  case hy86 => (intro W9 hW9; obtain ⟨k0, k1⟩ := hW9; first | (go_simp; done) | (go_simp; with_reducible rfl))
                  simp only [Act.put, List.getElem_toArray, List.getElem_cons_succ, List.getElem_cons_zero, List.setIfInBounds_toArray, List.set_cons_zero, List.set_cons_succ]
                  refine goes_take0 (i := 6) (v := (.bool true)) rfl (by kernel_rfl) (by kernel_rfl) (by kernel_rfl) rfl (fun _ _ _ h => h) (Or.inl ⟨by rfl, ?hy87⟩) (by assumption) ?hr87
                  case hy87 => (intro W9 hW9; obtain ⟨k0, k1⟩ := hW9; first | (go_simp; done) | (go_simp; with_reducible rfl))
                  simp only [Act.put, List.getElem_toArray, List.getElem_cons_succ, List.getElem_cons_zero, List.setIfInBounds_toArray, List.set_cons_zero, List.set_cons_succ]
                  refine goes_take0 (i := 7) (v := ?hv88) rfl (by kernel_rfl) (by kernel_rfl) (by kernel_rfl) rfl (fun _ _ _ h => h) (Or.inl ⟨by rfl, ?hy88⟩) (by assumption) ?hr88
                  case hy88 => (intro W9 hW9; obtain ⟨k0, k1⟩ := hW9; first | (go_simp; done) | (go_simp; with_reducible rfl))
                  simp only [Act.put, List.getElem_toArray, List.getElem_cons_succ, List.getElem_cons_zero, List.setIfInBounds_toArray, List.set_cons_zero, List.set_cons_succ]
                  refine goes_take0 (i := 8) (v := ?hv89) rfl (by kernel_rfl) (by kernel_rfl) (by kernel_rfl) rfl (fun _ _ _ h => h) (Or.inl ⟨by rfl, ?hy89⟩) (by assumption) ?hr89
                  case hy89 => (intro W9 hW9; obtain ⟨k0, k1⟩ := hW9; first | (go_simp; done) | (go_simp; with_reducible rfl))
                  simp only [Act.put, List.getElem_toArray, List.getElem_cons_succ, List.getElem_cons_zero, List.setIfInBounds_toArray, List.set_cons_zero, List.set_cons_succ]
                  refine goes_take0 (i := 9) (v := ?hv90) rfl (by kernel_rfl) (by kernel_rfl) (by kernel_rfl) rfl (fun _ _ _ h => h) (Or.inl ⟨by rfl, ?hy90⟩) (by assumption) ?hr90
                  case hy90 => (intro W9 hW9; obtain ⟨k0, k1⟩ := hW9; first | (go_simp; done) | (go_simp; with_reducible rfl))
                  simp only [Act.put, List.getElem_toArray, List.getElem_cons_succ, List.getElem_cons_zero, List.setIfInBounds_toArray, List.set_cons_zero, List.set_cons_succ]
                  refine goes_take0 (i := 10) (v := ?hv91) rfl (by kernel_rfl) (by kernel_rfl) (by kernel_rfl) rfl (fun _ _ _ h => h) (Or.inl ⟨by rfl, ?hy91⟩) (by assumption) ?hr91
                  case hy91 => (intro W9 hW9; obtain ⟨k0, k1⟩ := hW9; first | (go_simp; done) | (go_simp; with_reducible rfl))
                  simp only [Act.put, List.getElem_toArray, List.getElem_cons_succ, List.getElem_cons_zero, List.setIfInBounds_toArray, List.set_cons_zero, List.set_cons_succ]
                  refine goes_take0 (i := 11) (v := ?hv92) rfl (by kernel_rfl) (by kernel_rfl) (by kernel_rfl) rfl (fun _ _ _ h => h) (Or.inl ⟨by rfl, ?hy92⟩) (by assumption) ?hr92
                  case hy92 => (intro W9 hW9; obtain ⟨k0, k1⟩ := hW9; first | (go_simp; done) | (go_simp; with_reducible rfl))
                  simp only [Act.put, List.getElem_toArray, List.getElem_cons_succ, List.getElem_cons_zero, List.setIfInBounds_toArray, List.set_cons_zero, List.set_cons_succ]
                  refine goes_take0 (i := 12) (v := ?hv93) rfl (by kernel_rfl) (by kernel_rfl) (by kernel_rfl) rfl (fun _ _ _ h => h) (Or.inl ⟨by rfl, ?hy93⟩) (by assumption) ?hr93
                  case hy93 => (intro W9 hW9; obtain ⟨k0, k1⟩ := hW9; first | (go_simp; done) | (go_simp; with_reducible rfl))
                  simp only [Act.put, List.getElem_toArray, List.getElem_cons_succ, List.getElem_cons_zero, List.setIfInBounds_toArray, List.set_cons_zero, List.set_cons_succ]
                  refine goes_take0 (i := 13) (v := (.bool true)) rfl (by kernel_rfl) (by kernel_rfl) (by kernel_rfl) rfl (fun _ _ _ h => h) (Or.inl ⟨by rfl, ?hy94⟩) (by assumption) ?hr94
                  case hy94 => (intro W9 hW9; obtain ⟨k0, k1⟩ := hW9; first | (go_simp; done) | (go_simp; with_reducible rfl))
                  simp only [Act.put, List.getElem_toArray, List.getElem_cons_succ, List.getElem_cons_zero, List.setIfInBounds_toArray, List.set_cons_zero, List.set_cons_succ]
                  refine goes_take0 (i := 14) (v := (.bool true)) rfl (by kernel_rfl) (by kernel_rfl) (by kernel_rfl) rfl (fun _ _ _ h => h) (Or.inl ⟨by rfl, ?hy95⟩) (by assumption) ?hr95
                  case hy95 => (intro W9 hW9; obtain ⟨k0, k1⟩ := hW9; first | (go_simp; done) | (go_simp; with_reducible rfl))
                  simp only [Act.put, List.getElem_toArray, List.getElem_cons_succ, List.getElem_cons_zero, List.setIfInBounds_toArray, List.set_cons_zero, List.set_cons_succ]
                  refine goes_take0 (i := 15) (v := (.bool false)) rfl (by kernel_rfl) (by kernel_rfl) (by kernel_rfl) rfl (fun _ _ _ h => h) (Or.inl ⟨by rfl, ?hy96⟩) (by assumption) ?hr96
                  case hy96 => (intro W9 hW9; obtain ⟨k0, k1⟩ := hW9; first | (go_simp; done) | (go_simp; with_reducible rfl))
                  simp only [Act.put, List.getElem_toArray, List.getElem_cons_succ, List.getElem_cons_zero, List.setIfInBounds_toArray, List.set_cons_zero, List.set_cons_succ]
                  refine goes_done (by kernel_rfl) ?_ _
                  go_wp2
                  go_roundw
                  case rel => exact ⟨k + 1, num_succ k, hlt, Lib.hid (HBR.out.trans ((Below.refl _ wr).drew.mono HBR.out.size))⟩
                  case measure => simp [intOf]; omega
                · have f3 : decide (z < (cnt : Int)) = false := decide_eq_false h1
                  obtain rfl : false = q := by rw [← HIN.out, f2, f3]; rfl
                  clear HIN h1
                  go_wp2
                  refine region_goes 116 16 rfl (fun W => W.cell? ⟨b, 0, none⟩ = some (.int .i64 cnt) ∧ W.cell? ⟨bl, ol + k, none⟩ = some (.int .i64 z)) mixed ⟨z0, cz⟩ (fun hHeld => ?_)
                  refine goes_take0 (i := 0) (v := (.bool false)) rfl (by kernel_rfl) (by kernel_rfl) (by kernel_rfl) rfl (fun _ _ _ h => h) (Or.inl ⟨by rfl, ?hy97⟩) (by assumption) ?hr97
                  case hy97 => (intro W9 hW9; obtain ⟨k0, k1⟩ := hW9; first | (go_simp; done) | (go_simp; with_reducible rfl))
                  simp only [Act.put, List.getElem_toArray, List.getElem_cons_succ, List.getElem_cons_zero, List.setIfInBounds_toArray, List.set_cons_zero, List.set_cons_succ]
                  refine goes_take0 (i := 1) (v := ?hv98) rfl (by kernel_rfl) (by kernel_rfl) (by kernel_rfl) rfl (fun _ _ _ h => h) (Or.inl ⟨by rfl, ?hy98⟩) (by assumption) ?hr98
                  case hy98 => (intro W9 hW9; obtain ⟨k0, k1⟩ := hW9; first | (go_simp; done) | (go_simp; with_reducible rfl))
                  simp only [Act.put, List.getElem_toArray, List.getElem_cons_succ, List.getElem_cons_zero, List.setIfInBounds_toArray, List.set_cons_zero, List.set_cons_succ]
                  refine goes_take0 (i := 2) (v := ?hv99) rfl (by kernel_rfl) (by kernel_rfl) (by kernel_rfl) rfl (fun _ _ _ h => h) (Or.inl ⟨by rfl, ?hy99⟩) (by assumption) ?hr99
                  case hy99 => (intro W9 hW9; obtain ⟨k0, k1⟩ := hW9; first | (go_simp; done) | (go_simp; with_reducible rfl))
                  simp only [Act.put, List.getElem_toArray, List.getElem_cons_succ, List.getElem_cons_zero, List.setIfInBounds_toArray, List.set_cons_zero, List.set_cons_succ]
                  refine goes_take0 (i := 3) (v := ?hv100) rfl (by kernel_rfl) (by kernel_rfl) (by kernel_rfl) rfl (fun _ _ _ h => h) (Or.inl ⟨by rfl, ?hy100⟩) (by assumption) ?hr100
                  case hy100 => (intro W9 hW9; obtain ⟨k0, k1⟩ := hW9; first | (go_simp; done) | (go_simp; with_reducible rfl))
                  simp only [Act.put, List.getElem_toArray, List.getElem_cons_succ, List.getElem_cons_zero, List.setIfInBounds_toArray, List.set_cons_zero, List.set_cons_succ]
                  refine goes_take0 (i := 4) (v := ?hv101) rfl (by kernel_rfl) (by kernel_rfl) (by kernel_rfl) rfl (fun _ _ _ h => h) (Or.inl ⟨by rfl, ?hy101⟩) (by assumption) ?hr101
                  case hy101 => (intro W9 hW9; obtain ⟨k0, k1⟩ := hW9; first | (go_simp; done) | (go_simp; with_reducible rfl))
                  simp only [Act.put, List.getElem_toArray, List.getElem_cons_succ, List.getElem_cons_zero, List.setIfInBounds_toArray, List.set_cons_zero, List.set_cons_succ]
                  refine goes_take0 (i := 5) (v := (.bool true)) rfl (by kernel_rfl) (by kernel_rfl) (by kernel_rfl) rfl (fun _ _ _ h => h) (Or.inl ⟨by rfl, ?hy102⟩) (by assumption) ?hr102
                  case hy102 => (intro W9 hW9; obtain ⟨k0, k1⟩ := hW9; first | (go_simp; done) | (go_simp; with_reducible rfl))
                  simp only [Act.put, List.getElem_toArray, List.getElem_cons_succ, List.getElem_cons_zero, List.setIfInBounds_toArray, List.set_cons_zero, List.set_cons_succ]
                  refine goes_take0 (i := 6) (v := (.bool true)) rfl (by kernel_rfl) (by kernel_rfl) (by kernel_rfl) rfl (fun _ _ _ h => h) (Or.inl ⟨by rfl, ?hy103⟩) (by assumption) ?hr103
                  case hy103 => (intro W9 hW9; obtain ⟨k0, k1⟩ := hW9; first | (go_simp; done) | (go_simp; with_reducible rfl))
                  simp only [Act.put, List.getElem_toArray, List.getElem_cons_succ, List.getElem_cons_zero, List.setIfInBounds_toArray, List.set_cons_zero, List.set_cons_succ]
                  refine goes_take0 (i := 7) (v := ?hv104) rfl (by kernel_rfl) (by kernel_rfl) (by kernel_rfl) rfl (fun _ _ _ h => h) (Or.inl ⟨by rfl, ?hy104⟩) (by assumption) ?hr104
                  case hy104 => (intro W9 hW9; obtain ⟨k0, k1⟩ := hW9; first | (go_simp; done) | (go_simp; with_reducible rfl))
                  simp only [Act.put, List.getElem_toArray, List.getElem_cons_succ, List.getElem_cons_zero, List.setIfInBounds_toArray, List.set_cons_zero, List.set_cons_succ]
                  refine goes_take0 (i := 8) (v := ?hv105) rfl (by kernel_rfl) (by kernel_rfl) (by kernel_rfl) rfl (fun _ _ _ h => h) (Or.inl ⟨by rfl, ?hy105⟩) (by assumption) ?hr105
                  case hy105 => (intro W9 hW9; obtain ⟨k0, k1⟩ := hW9; first | (go_simp; done) | (go_simp; with_reducible rfl))
                  simp only [Act.put, List.getElem_toArray, List.getElem_cons_succ, List.getElem_cons_zero, List.setIfInBounds_toArray, List.set_cons_zero, List.set_cons_succ]
                  refine goes_take0 (i := 9) (v := ?hv106) rfl (by kernel_rfl) (by kernel_rfl) (by kernel_rfl) rfl (fun _ _ _ h => h) (Or.inl ⟨by rfl, ?hy106⟩) (by assumption) ?hr106
                  case hy106 => (intro W9 hW9; obtain ⟨k0, k1⟩ := hW9; first | (go_simp; done) | (go_simp; with_reducible rfl))
                  simp only [Act.put, List.getElem_toArray, List.getElem_cons_succ, List.getElem_cons_zero, List.setIfInBounds_toArray, List.set_cons_zero, List.set_cons_succ]
                  refine goes_take0 (i := 10) (v := ?hv107) rfl (by kernel_rfl) (by kernel_rfl) (by kernel_rfl) rfl (fun _ _ _ h => h) (Or.inl ⟨by rfl, ?hy107⟩) (by assumption) ?hr107
                  case hy107 => (intro W9 hW9; obtain ⟨k0, k1⟩ := hW9; first | (go_simp; done) | (go_simp; with_reducible rfl))
                  simp only [Act.put, List.getElem_toArray, List.getElem_cons_succ, List.getElem_cons_zero, List.setIfInBounds_toArray, List.set_cons_zero, List.set_cons_succ]
                  refine goes_take0 (i := 11) (v := ?hv108) rfl (by kernel_rfl) (by kernel_rfl) (by kernel_rfl) rfl (fun _ _ _ h => h) (Or.inl ⟨by rfl, ?hy108⟩) (by assumption) ?hr108
                  case hy108 => (intro W9 hW9; obtain ⟨k0, k1⟩ := hW9; first | (go_simp; done) | (go_simp; with_reducible rfl))
                  simp only [Act.put, List.getElem_toArray, List.getElem_cons_succ, List.getElem_cons_zero, List.setIfInBounds_toArray, List.set_cons_zero, List.set_cons_succ]
                  refine goes_take0 (i := 12) (v := ?hv109) rfl (by kernel_rfl) (by kernel_rfl) (by kernel_rfl) rfl (fun _ _ _ h => h) (Or.inl ⟨by rfl, ?hy109⟩) (by assumption) ?hr109
                  case hy109 => (intro W9 hW9; obtain ⟨k0, k1⟩ := hW9; first | (go_simp; done) | (go_simp; with_reducible rfl))
                  simp only [Act.put, List.getElem_toArray, List.getElem_cons_succ, List.getElem_cons_zero, List.setIfInBounds_toArray, List.set_cons_zero, List.set_cons_succ]
                  refine goes_take0 (i := 13) (v := (.bool false)) rfl (by kernel_rfl) (by kernel_rfl) (by kernel_rfl) rfl (fun _ _ _ h => h) (Or.inl ⟨by rfl, ?hy110⟩) (by assumption) ?hr110
                  case hy110 => (intro W9 hW9; obtain ⟨k0, k1⟩ := hW9; first | (go_simp; done) | (go_simp; with_reducible rfl))
                  simp only [Act.put, List.getElem_toArray, List.getElem_cons_succ, List.getElem_cons_zero, List.setIfInBounds_toArray, List.set_cons_zero, List.set_cons_succ]
                  refine goes_take0 (i := 14) (v := (.bool false)) rfl (by kernel_rfl) (by kernel_rfl) (by kernel_rfl) rfl (fun _ _ _ h => h) (Or.inl ⟨by rfl, ?hy111⟩) (by assumption) ?hr111
                  case hy111 => (intro W9 hW9; obtain ⟨k0, k1⟩ := hW9; first | (go_simp; done) | (go_simp; with_reducible rfl))
                  simp only [Act.put, List.getElem_toArray, List.getElem_cons_succ, List.getElem_cons_zero, List.setIfInBounds_toArray, List.set_cons_zero, List.set_cons_succ]
                  refine goes_take0 (i := 15) (v := (.bool false)) rfl (by kernel_rfl) (by kernel_rfl) (by kernel_rfl) rfl (fun _ _ _ h => h) (Or.inl ⟨by rfl, ?hy112⟩) (by assumption) ?hr112
                  case hy112 => (intro W9 hW9; obtain ⟨k0, k1⟩ := hW9; first | (go_simp; done) | (go_simp; with_reducible rfl))
                  simp only [Act.put, List.getElem_toArray, List.getElem_cons_succ, List.getElem_cons_zero, List.setIfInBounds_toArray, List.set_cons_zero, List.set_cons_succ]
                  refine goes_done (by kernel_rfl) ?_ _
                  go_wp2
                  go_roundw
                  case rel => exact ⟨k + 1, num_succ k, hlt, Lib.hid (HBR.out.trans ((Below.refl _ wr).drew.mono HBR.out.size))⟩
                  case measure => simp [intOf]; omega
              · have f1 : decide (z ≥ 0) = false := decide_eq_false (by omega)
                have f2 : decide (0 ≤ z) = false := decide_eq_false h0
                obtain rfl : false = q := by rw [← HIN.out, f2]; rfl
                clear HIN h0
                go_wp2
                refine region_goes 116 16 rfl (fun W => W.cell? ⟨b, 0, none⟩ = some (.int .i64 cnt) ∧ W.cell? ⟨bl, ol + k, none⟩ = some (.int .i64 z)) mixed ⟨z0, cz⟩ (fun hHeld => ?_)
                refine goes_take0 (i := 0) (v := (.bool false)) rfl (by kernel_rfl) (by kernel_rfl) (by kernel_rfl) rfl (fun _ _ _ h => h) (Or.inl ⟨by rfl, ?hy113⟩) (by assumption) ?hr113
                case hy113 => (intro W9 hW9; obtain ⟨k0, k1⟩ := hW9; first | (go_simp; done) | (go_simp; with_reducible rfl))
                simp only [Act.put, List.getElem_toArray, List.getElem_cons_succ, List.getElem_cons_zero, List.setIfInBounds_toArray, List.set_cons_zero, List.set_cons_succ]
                refine goes_take0 (i := 1) (v := ?hv114) rfl (by kernel_rfl) (by kernel_rfl) (by kernel_rfl) rfl (fun _ _ _ h => h) (Or.inl ⟨by rfl, ?hy114⟩) (by assumption) ?hr114
                case hy114 => (intro W9 hW9; obtain ⟨k0, k1⟩ := hW9; first | (go_simp; done) | (go_simp; with_reducible rfl))
                simp only [Act.put, List.getElem_toArray, List.getElem_cons_succ, List.getElem_cons_zero, List.setIfInBounds_toArray, List.set_cons_zero, List.set_cons_succ]
                refine goes_take0 (i := 2) (v := ?hv115) rfl (by kernel_rfl) (by kernel_rfl) (by kernel_rfl) rfl (fun _ _ _ h => h) (Or.inl ⟨by rfl, ?hy115⟩) (by assumption) ?hr115
                case hy115 => (intro W9 hW9; obtain ⟨k0, k1⟩ := hW9; first | (go_simp; done) | (go_simp; with_reducible rfl))
                simp only [Act.put, List.getElem_toArray, List.getElem_cons_succ, List.getElem_cons_zero, List.setIfInBounds_toArray, List.set_cons_zero, List.set_cons_succ]
                refine goes_take0 (i := 3) (v := ?hv116) rfl (by kernel_rfl) (by kernel_rfl) (by kernel_rfl) rfl (fun _ _ _ h => h) (Or.inl ⟨by rfl, ?hy116⟩) (by assumption) ?hr116
                case hy116 => (intro W9 hW9; obtain ⟨k0, k1⟩ := hW9; first | (go_simp; done) | (go_simp; with_reducible rfl))
                simp only [Act.put, List.getElem_toArray, List.getElem_cons_succ, List.getElem_cons_zero, List.setIfInBounds_toArray, List.set_cons_zero, List.set_cons_succ]
                refine goes_take0 (i := 4) (v := ?hv117) rfl (by kernel_rfl) (by kernel_rfl) (by kernel_rfl) rfl (fun _ _ _ h => h) (Or.inl ⟨by rfl, ?hy117⟩) (by assumption) ?hr117
                case hy117 => (intro W9 hW9; obtain ⟨k0, k1⟩ := hW9; first | (go_simp; done) | (go_simp; with_reducible rfl))
                simp only [Act.put, List.getElem_toArray, List.getElem_cons_succ, List.getElem_cons_zero, List.setIfInBounds_toArray, List.set_cons_zero, List.set_cons_succ]
                refine goes_take0 (i := 5) (v := (.bool false)) rfl (by kernel_rfl) (by kernel_rfl) (by kernel_rfl) rfl (fun _ _ _ h => h) (Or.inl ⟨by rfl, ?hy118⟩) (by assumption) ?hr118
                case hy118 => (intro W9 hW9; obtain ⟨k0, k1⟩ := hW9; first | (go_simp; done) | (go_simp; with_reducible rfl))
                simp only [Act.put, List.getElem_toArray, List.getElem_cons_succ, List.getElem_cons_zero, List.setIfInBounds_toArray, List.set_cons_zero, List.set_cons_succ]
                refine goes_take0 (i := 6) (v := (.bool false)) rfl (by kernel_rfl) (by kernel_rfl) (by kernel_rfl) rfl (fun _ _ _ h => h) (Or.inl ⟨by rfl, ?hy119⟩) (by assumption) ?hr119
                case hy119 => (intro W9 hW9; obtain ⟨k0, k1⟩ := hW9; first | (go_simp; done) | (go_simp; with_reducible rfl))
                simp only [Act.put, List.getElem_toArray, List.getElem_cons_succ, List.getElem_cons_zero, List.setIfInBounds_toArray, List.set_cons_zero, List.set_cons_succ]
                refine goes_take0 (i := 7) (v := undef) rfl (by kernel_rfl) (by kernel_rfl) (by kernel_rfl) rfl (fun _ _ _ h => h) (Or.inr ⟨by rfl, rfl⟩) (by assumption) ?_
                simp only [Act.put, List.getElem_toArray, List.getElem_cons_succ, List.getElem_cons_zero, List.setIfInBounds_toArray, List.set_cons_zero, List.set_cons_succ]
                refine goes_take0 (i := 8) (v := undef) rfl (by kernel_rfl) (by kernel_rfl) (by kernel_rfl) rfl (fun _ _ _ h => h) (Or.inr ⟨by rfl, rfl⟩) (by assumption) ?_
                simp only [Act.put, List.getElem_toArray, List.getElem_cons_succ, List.getElem_cons_zero, List.setIfInBounds_toArray, List.set_cons_zero, List.set_cons_succ]
                refine goes_take0 (i := 9) (v := undef) rfl (by kernel_rfl) (by kernel_rfl) (by kernel_rfl) rfl (fun _ _ _ h => h) (Or.inr ⟨by rfl, rfl⟩) (by assumption) ?_
                simp only [Act.put, List.getElem_toArray, List.getElem_cons_succ, List.getElem_cons_zero, List.setIfInBounds_toArray, List.set_cons_zero, List.set_cons_succ]
                refine goes_take0 (i := 10) (v := undef) rfl (by kernel_rfl) (by kernel_rfl) (by kernel_rfl) rfl (fun _ _ _ h => h) (Or.inr ⟨by rfl, rfl⟩) (by assumption) ?_
                simp only [Act.put, List.getElem_toArray, List.getElem_cons_succ, List.getElem_cons_zero, List.setIfInBounds_toArray, List.set_cons_zero, List.set_cons_succ]
                refine goes_take0 (i := 11) (v := undef) rfl (by kernel_rfl) (by kernel_rfl) (by kernel_rfl) rfl (fun _ _ _ h => h) (Or.inr ⟨by rfl, rfl⟩) (by assumption) ?_
                simp only [Act.put, List.getElem_toArray, List.getElem_cons_succ, List.getElem_cons_zero, List.setIfInBounds_toArray, List.set_cons_zero, List.set_cons_succ]
                refine goes_take0 (i := 12) (v := undef) rfl (by kernel_rfl) (by kernel_rfl) (by kernel_rfl) rfl (fun _ _ _ h => h) (Or.inr ⟨by rfl, rfl⟩) (by assumption) ?_
                simp only [Act.put, List.getElem_toArray, List.getElem_cons_succ, List.getElem_cons_zero, List.setIfInBounds_toArray, List.set_cons_zero, List.set_cons_succ]
                refine goes_take0 (i := 13) (v := undef) rfl (by kernel_rfl) (by kernel_rfl) (by kernel_rfl) rfl (fun _ _ _ h => h) (Or.inr ⟨by rfl, rfl⟩) (by assumption) ?_
                simp only [Act.put, List.getElem_toArray, List.getElem_cons_succ, List.getElem_cons_zero, List.setIfInBounds_toArray, List.set_cons_zero, List.set_cons_succ]
                refine goes_take0 (i := 14) (v := (.bool false)) rfl (by kernel_rfl) (by kernel_rfl) (by kernel_rfl) rfl (fun _ _ _ h => h) (Or.inl ⟨by rfl, ?hy120⟩) (by assumption) ?hr120
                case hy120 => (intro W9 hW9; obtain ⟨k0, k1⟩ := hW9; first | (go_simp; done) | (go_simp; with_reducible rfl))
                simp only [Act.put, List.getElem_toArray, List.getElem_cons_succ, List.getElem_cons_zero, List.setIfInBounds_toArray, List.set_cons_zero, List.set_cons_succ]
                refine goes_take0 (i := 15) (v := (.bool false)) rfl (by kernel_rfl) (by kernel_rfl) (by kernel_rfl) rfl (fun _ _ _ h => h) (Or.inl ⟨by rfl, ?hy121⟩) (by assumption) ?hr121
                case hy121 => (intro W9 hW9; obtain ⟨k0, k1⟩ := hW9; first | (go_simp; done) | (go_simp; with_reducible rfl))
                simp only [Act.put, List.getElem_toArray, List.getElem_cons_succ, List.getElem_cons_zero, List.setIfInBounds_toArray, List.set_cons_zero, List.set_cons_succ]
                refine goes_done (by kernel_rfl) ?_ _
                go_wp2
                go_roundw
                case rel => exact ⟨k + 1, num_succ k, hlt, Lib.hid (HBR.out.trans ((Below.refl _ wr).drew.mono HBR.out.size))⟩
                case measure => simp [intOf]; omega
        · have hdd : decide ((k : Int) < L.length) = false := decide_eq_false (by omega)
          have hdn : decide (k < L.length) = false := decide_eq_false hlt
          clear hlt
          have hb4r : Below w4.heap.size w4 wr := HB45.out.trans (HBR.out.mono HB45.out.size)
          have hrow := HC5.out wr HBR.out
          have HCC := Lib.hid (HCLO.out wr hb4r (.slice ac l.length cc) (l.map fun x : Nat => (x : Int)) (by rw [List.length_map]; omega) (IntsAt.row (n := l.length) (by rw [List.map_map]; exact hrow)))
          have HROW := Lib.hid hrow
          have HWR := Lib.hid (HW5.out.trans (HBR.out.mono HW5.out.size))
          obtain ⟨x0, x1, x2, x3, x4⟩ := (HX5.out wr HBR.out).cells
          clear hrow hb4r HBR
          go_wp2_with (first
            | (go_at_call 11; (with_reducible refine HCC.out.mono ?_); rintro e w6 ⟨v6, l6, rfl, HR6, HL6, HB6⟩; obtain rfl : l6 = l := rise_same HL6.out.1 HS.out.up (fun s => (HL6.out.2 s).trans ((reach_idem HS.out.all s).trans (HS.out.all s).symm)); obtain ⟨a6, c6, rfl, _⟩ := row_at HR6.out rfl; have hsm := rsameI_any (.slice a6 l6.length c6) (.slice ac l6.length cc) (l6.map fun x : Nat => (x : Int)) (l6.map fun x : Nat => (x : Int)) w6 (by rw [List.length_map]; omega) (by rw [List.length_map]; omega) (rdv_row (by rw [List.map_map]; exact HR6.out) (by simp)) (rdv_row (by rw [List.map_map]; exact row_keep HROW.out fun _ _ _ h1 => (HB6.out.block _ (lt_of_block h1)).trans h1) (by simp)); rw [decide_eq_true rfl] at hsm; have HSM := Lib.hid hsm; have HW6 := Lib.hid (HWR.out.trans (HB6.out.mono HWR.out.size)); clear hsm HR6 HL6 HB6)
            | (go_at_call 10; (with_reducible refine HSM.out.mono ?_); rintro e w7 ⟨rfl, hb7⟩; have HW7 := Lib.hid (HW6.out.trans (hb7.mono HW6.out.size)); clear hb7))
          go_ret
          exact ⟨rfl, HW7.out⟩
end Go.Proofs.YtpfhhdiipedklaaDoor
