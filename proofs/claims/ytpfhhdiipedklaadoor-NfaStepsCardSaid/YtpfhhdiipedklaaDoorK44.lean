/- Texts that a proof rests on: The walk of the law NfaSteps. -/
import Derived.Test.YtpfhhdiipedklaaDoorK43
set_option maxRecDepth 100000
namespace Go.Proofs.YtpfhhdiipedklaaDoor
open Go.RowKit

theorem places_same {cnt : Nat} {E : List (Nat × Nat)} {L : List Int} {l : List Nat} {S : Nat → Bool} (h1 : l.Pairwise (· < ·) ∧ ∀ s, s ∈ l ↔ Reach cnt E L s) (h2 : ∀ s, s < cnt → (S s = true ↔ Reach cnt E L s)) : l.map (fun x : Nat => (x : Int)) = placesOf cnt S := by
  have e : l = (List.range cnt).filter S := rise_same h1.1 (List.Pairwise.filter _ List.pairwise_lt_range) fun s => by
    rw [h1.2, List.mem_filter, List.mem_range]
    exact ⟨fun h => ⟨h.lt, (h2 s h.lt).2 h⟩, fun h => (h2 s h.1).1 h.2⟩
  rw [e]; rfl
theorem same_places {cnt : Nat} {E : List (Nat × Nat)} {L : List Int} {l : List Nat} {S : Nat → Bool} {B1 B2 : Nat} {v u : Value} {w : World} (hc : cnt ≤ 4096) (h1 : l.Pairwise (· < ·) ∧ ∀ s, s ∈ l ↔ Reach cnt E L s) (h2 : ∀ s, s < cnt → (S s = true ↔ Reach cnt E L s))
    (hv : w.ownsRow B1 3 1 v l.length (l.map fun x : Nat => Value.int .i64 (x : Int))) (hu : w.ownsRow B2 3 1 u (placesOf cnt S).length ((placesOf cnt S).map (Value.int .i64))) :
    Calls Tryd.prog 10 #[v, u] w fun e w' => e = .returned (.bool true) ∧ Below w.heap.size w w' := by
  have hp := placesOf_len cnt S
  have hl := rise_len h1
  have h := rsameI_any v u (l.map fun x : Nat => (x : Int)) (placesOf cnt S) w (by rw [List.length_map]; omega) (by omega) (rdv_row (by rw [List.map_map]; exact hv) (by simp)) (rdv_row hu (by simp))
  rwa [decide_eq_true (places_same h1 h2)] at h
set_option linter.unusedSimpArgs false in
set_option maxHeartbeats 4000000 in
theorem steps_law (code : ByteArray) (v : Value) (L : List Int) (bn : Nat) (w : World) (hbn : bn < 256) (hT : Tab w) (hv : IntsAt w v L) :
    Calls Tryd.prog 3 #[.string code, v, .int .u8 bn] w fun e w' => e = .returned (.bool true) ∧ Below w.heap.size w w' := by
  have HAW := Lib.hid (awake_any w hT)
  have HT := Lib.hid hT
  have HV := Lib.hid (show ∀ wr, Below w.heap.size w wr → IntsAt wr v L from fun wr hb => hv.below hb)
  obtain ⟨a, cp, rfl, _⟩ := hv
  clear hT
  go_enter Tryd.func3, Tryd.ntmps3
  go_upto_region 2 with (go_at_call 7; (with_reducible refine HAW.out.mono ?_); rintro e w1 ⟨rfl, hb1⟩)
  have HB1 := Lib.hid hb1
  clear hb1 HAW
  have mixed : Tryd.prog.follows .mixedOrders = true := by kernel_rfl
  by_cases hc : code.size > 10
  · have hd1 : decide ((code.size : Int) > 10) = true := decide_eq_true (by omega)
    have hd2 : decide ((10 : Int) < code.size) = true := decide_eq_true (by omega)
    go_wp2
    go_ret
    exact ⟨rfl, HB1.out⟩
  have hd1 : decide ((code.size : Int) > 10) = false := decide_eq_false (by omega)
  have hd2 : decide ((10 : Int) < code.size) = false := decide_eq_false (by omega)
  by_cases hl : L.length > 60
  · have hd3 : decide ((L.length : Int) > 60) = true := decide_eq_true (by omega)
    have hd4 : decide ((60 : Int) < L.length) = true := decide_eq_true (by omega)
    go_wp2
    go_ret
    exact ⟨rfl, HB1.out⟩
  have hd3 : decide ((L.length : Int) > 60) = false := decide_eq_false (by omega)
  have hd4 : decide ((60 : Int) < L.length) = false := decide_eq_false (by omega)
  have HPL := Lib.hid (rplain_any code w1 (by omega))
  have hcs : code.size ≤ 10 := by omega
  have hls : L.length ≤ 60 := by omega
  clear hc hl
  go_upto_region 7 with (first
    | (go_at_call 9; (with_reducible refine HPL.out.mono ?_); rintro e w2 ⟨p, ks, rfl, HK2, hs2, HG2, HB2⟩; have HBD := Lib.hid (nbuild_plain p ks w2 (by omega) HK2.out HG2.out))
    | (go_at_call 8; (with_reducible refine HBD.out.mono ?_); rintro e w3 ⟨n, ae, ne, ce, aa, na, ca, x4, r, rfl, HR3, HB3⟩))
  have HW3 := Lib.hid (HB1.out.trans ((HB2.out.trans (HB3.out.mono HB2.out.size)).mono HB1.out.size))
  clear HPL HBD HK2 HB2 HB3 HB1 hd1 hd2
  rcases HR3.out with rfl | ⟨rfl, rfl, rfl, rfl, rfl, hc3, he3, ha3⟩
  · go_wp2
    go_ret
    exact ⟨rfl, HW3.out.trans ((new_one w3 _).mono HW3.out.size)⟩
  have hok := built_ok HG2.out.1 HG2.out.2
  generalize (bld p M0).e = E at *
  generalize (bld p M0).a = A at *
  generalize p.cnt = cnt at *
  obtain ⟨b, hbe⟩ : ∃ b, w3.heap.size = b := ⟨_, rfl⟩
  obtain ⟨w4, hw4⟩ : ∃ w4, w3.alloc (.cells #[.int .i64 cnt, .slice ae E.length ce, .slice aa A.length ca, .int .i64 0, .int .i64 1] 27) = w4 := ⟨_, rfl⟩
  have hb34 : Below w3.heap.size w3 w4 := by rw [← hw4]; exact new_one w3 _
  have HX4 : Hid (Nblk w4 b cnt (.slice ae E.length ce) (.slice aa A.length ca)) := Lib.hid (by rw [← hw4, ← hbe]; exact Nblk.new w3 cnt _ _)
  have HW4 := Lib.hid (HW3.out.trans (hb34.mono HW3.out.size))
  have HE4 := Lib.hid (he3.below hb34)
  have HA4 := Lib.hid (ha3.below hb34)
  have hel : E.length ≤ 20000 := by omega
  have hal : A.length ≤ 20000 := by omega
  have HCLO := Lib.hid (fun W (hW : Below w4.heap.size w4 W) v (M : List Int) (hM : M.length < 100000000) (hi : IntsAt W v M) => nclose_any cnt E A (.slice ae E.length ce) (.slice aa A.length ca) v M W (by omega) (HE4.out.below hW) (HA4.out.below hW) hel hal hM hi (HT.out.below (HW4.out.trans (hW.mono HW4.out.size))))
  have HEK := Lib.hid hok.1
  have HSTO := Lib.hid (fun W (hW : Below w4.heap.size w4 W) => nstep_any cnt E A (.slice ae E.length ce) (.slice aa A.length ca) (.slice a L.length cp) L bn W (by omega) (HE4.out.below hW) (HA4.out.below hW) hel hal (by omega) hbn (HV.out W (HW4.out.trans (hW.mono HW4.out.size))) (HT.out.below (HW4.out.trans (hW.mono HW4.out.size))))
  have HPLA := Lib.hid (fun W (hW : Below w4.heap.size w4 W) => plain_any cnt A ae E.length ce (.slice aa A.length ca) W (HA4.out.below hW) hal)
  have HRCL := Lib.hid (fun W vb (hW : Below w4.heap.size w4 W) => rclose_any cnt E (.slice ae E.length ce) vb (.slice a L.length cp) L W (by omega) (HE4.out.below hW) hel HEK.out (by omega) (HV.out W (HW4.out.trans (hW.mono HW4.out.size))))
  have HRST := Lib.hid (fun W vb (hW : Below w4.heap.size w4 W) (hB : RowB W vb A) => rstep_any cnt E A (.slice ae E.length ce) vb (.slice a L.length cp) L bn W (by omega) (HE4.out.below hW) hB hel hal HEK.out (by omega) (HV.out W (HW4.out.trans (hW.mono HW4.out.size))) hbn)
  rw [hw4, hbe]
  clear hw4 hbe hb34 HR3 he3 ha3 hok HW3 HG2 HCLO
  have HCL := Lib.hid (nclose_any cnt E A (.slice ae E.length ce) (.slice aa A.length ca) (.slice a L.length cp) L w4.drew (by omega) (HE4.out.below (Below.refl _ _).drew) (HA4.out.below (Below.refl _ _).drew) hel hal (by omega) (HV.out _ (HW4.out.trans ((Below.refl _ w4).drew.mono HW4.out.size))) (HT.out.below (HW4.out.trans ((Below.refl _ w4).drew.mono HW4.out.size))))
  obtain ⟨x0, x1, x2, x3, x4⟩ := HX4.out.cells
  have hbd : Below w4.heap.size w4 w4.drew := (Below.refl _ w4).drew
  go_upto_region 9 with fail
  refine region_goes 20 21 rfl (fun W => W.cell? ⟨b, 0, none⟩ = some (.int .i64 cnt) ∧ W.cell? ⟨b, 1, none⟩ = some (.slice ae E.length ce) ∧ W.cell? ⟨b, 2, none⟩ = some (.slice aa A.length ca) ∧ W.cell? ⟨b, 3, none⟩ = some (.int .i64 0) ∧ W.cell? ⟨b, 4, none⟩ = some (.int .i64 1)) mixed ⟨x0, x1, x2, x3, x4⟩ (fun hHeld => ?_)
  clear x0 x1 x2 x3 x4
  refine goes_take (i := 0) (v := ?gv1) rfl (by kernel_rfl) (by kernel_rfl) (by kernel_rfl) (by kernel_rfl) (fun _ _ _ h => h) (Or.inl ⟨by rfl, ?gy1⟩) (by assumption) ?gr1
  case gy1 => (intro W9 hW9; obtain ⟨k0, k1, k2, k3, k4⟩ := hW9; first | (go_simp; done) | (go_simp; with_reducible rfl))
  simp only [Act.put, List.getElem_toArray, List.getElem_cons_succ, List.getElem_cons_zero, List.setIfInBounds_toArray, List.set_cons_zero, List.set_cons_succ]
  refine goes_take (i := 1) (v := ?gv2) rfl (by kernel_rfl) (by kernel_rfl) (by kernel_rfl) (by kernel_rfl) (fun _ _ _ h => h) (Or.inl ⟨by rfl, ?gy2⟩) (by assumption) ?gr2
  case gy2 => (intro W9 hW9; obtain ⟨k0, k1, k2, k3, k4⟩ := hW9; first | (go_simp; done) | (go_simp; with_reducible rfl))
  simp only [Act.put, List.getElem_toArray, List.getElem_cons_succ, List.getElem_cons_zero, List.setIfInBounds_toArray, List.set_cons_zero, List.set_cons_succ]
  refine goes_take (i := 3) (v := ?gv3) rfl (by kernel_rfl) (by kernel_rfl) (by kernel_rfl) (by kernel_rfl) (fun _ _ _ h => h) (Or.inl ⟨by rfl, ?gy3⟩) (by assumption) ?gr3
  case gy3 => (intro W9 hW9; obtain ⟨k0, k1, k2, k3, k4⟩ := hW9; first | (go_simp; done) | (go_simp; with_reducible rfl))
  simp only [Act.put, List.getElem_toArray, List.getElem_cons_succ, List.getElem_cons_zero, List.setIfInBounds_toArray, List.set_cons_zero, List.set_cons_succ]
  refine goes_take (i := 5) (v := ?gv4) rfl (by kernel_rfl) (by kernel_rfl) (by kernel_rfl) (by kernel_rfl) (fun _ _ _ h => h) (Or.inl ⟨by rfl, ?gy4⟩) (by assumption) ?gr4
  case gy4 => (intro W9 hW9; obtain ⟨k0, k1, k2, k3, k4⟩ := hW9; first | (go_simp; done) | (go_simp; with_reducible rfl))
  simp only [Act.put, List.getElem_toArray, List.getElem_cons_succ, List.getElem_cons_zero, List.setIfInBounds_toArray, List.set_cons_zero, List.set_cons_succ]
  refine goes_one (i := 2) (by kernel_rfl) rfl (fun K9 hK9 => ?_)
  go_simp
  refine (HCL.out).mono ?_
  rintro e w5 ⟨v5, l5, rfl, HR5, HL5, HB5⟩
  have hb5 := hbd.trans (HB5.out.mono hbd.size)
  obtain ⟨k0, k1, k2, k3, k4⟩ := hHeld
  refine hK9.out _ _ (fun _ => ⟨cell_below HB5.out k0, cell_below HB5.out k1, cell_below HB5.out k2, cell_below HB5.out k3, cell_below HB5.out k4⟩) (fun hHeld => ?_)
  have hHeld := hHeld (by decide)
  clear hK9 K9 k0 k1 k2 k3 k4
  refine goes_one (i := 4) (by kernel_rfl) rfl (fun K9 hK9 => ?_)
  go_simp
  refine (HPLA.out w5 hb5).mono ?_
  rintro e w6 ⟨vb6, rfl, HV6, HB6⟩
  have hb6 := hb5.trans (HB6.out.mono hb5.size)
  obtain ⟨k0, k1, k2, k3, k4⟩ := hHeld
  refine hK9.out _ _ (fun _ => ⟨cell_below HB6.out k0, cell_below HB6.out k1, cell_below HB6.out k2, cell_below HB6.out k3, cell_below HB6.out k4⟩) (fun hHeld => ?_)
  have hHeld := hHeld (by decide)
  clear hK9 K9 k0 k1 k2 k3 k4
  refine goes_one (i := 6) (by kernel_rfl) rfl (fun K9 hK9 => ?_)
  go_simp
  refine (HRCL.out w6 vb6 hb6).mono ?_
  rintro e w7 ⟨v7, S7, rfl, HR7, HS7, HB7⟩
  have hb7 := hb6.trans (HB7.out.mono hb6.size)
  obtain ⟨k0, k1, k2, k3, k4⟩ := hHeld
  refine hK9.out _ _ (fun _ => ⟨cell_below HB7.out k0, cell_below HB7.out k1, cell_below HB7.out k2, cell_below HB7.out k3, cell_below HB7.out k4⟩) (fun hHeld => ?_)
  have hHeld := hHeld (by decide)
  clear hK9 K9 k0 k1 k2 k3 k4
  refine goes_one (i := 7) (by kernel_rfl) rfl (fun K9 hK9 => ?_)
  go_simp
  refine (same_places (by omega) HL5.out HS7.out (row_keep HR5.out fun _ _ _ h1 => (HB7.out.block _ (Nat.lt_of_lt_of_le (lt_of_block h1) HB6.out.size)).trans ((HB6.out.block _ (lt_of_block h1)).trans h1)) HR7.out).mono ?_
  rintro e w8 ⟨rfl, hb78⟩
  have hb8 := hb7.trans (hb78.mono hb7.size)
  obtain ⟨k0, k1, k2, k3, k4⟩ := hHeld
  refine hK9.out _ _ (fun _ => ⟨cell_below hb78 k0, cell_below hb78 k1, cell_below hb78 k2, cell_below hb78 k3, cell_below hb78 k4⟩) (fun hHeld => ?_)
  have hHeld := hHeld (by decide)
  clear hK9 K9 k0 k1 k2 k3 k4
  refine goes_take (i := 8) (v := (.bool true)) rfl (by kernel_rfl) (by kernel_rfl) (by kernel_rfl) (by kernel_rfl) (fun _ _ _ h => h) (Or.inl ⟨by rfl, ?gy5⟩) (by assumption) ?gr5
  case gy5 => (intro W9 hW9; obtain ⟨k0, k1, k2, k3, k4⟩ := hW9; first | (go_simp; done) | (go_simp; with_reducible rfl))
  simp only [Act.put, List.getElem_toArray, List.getElem_cons_succ, List.getElem_cons_zero, List.setIfInBounds_toArray, List.set_cons_zero, List.set_cons_succ]
  refine goes_take (i := 9) (v := ?gv6) rfl (by kernel_rfl) (by kernel_rfl) (by kernel_rfl) (by kernel_rfl) (fun _ _ _ h => h) (Or.inl ⟨by rfl, ?gy6⟩) (by assumption) ?gr6
  case gy6 => (intro W9 hW9; obtain ⟨k0, k1, k2, k3, k4⟩ := hW9; first | (go_simp; done) | (go_simp; with_reducible rfl))
  simp only [Act.put, List.getElem_toArray, List.getElem_cons_succ, List.getElem_cons_zero, List.setIfInBounds_toArray, List.set_cons_zero, List.set_cons_succ]
  refine goes_take (i := 10) (v := ?gv7) rfl (by kernel_rfl) (by kernel_rfl) (by kernel_rfl) (by kernel_rfl) (fun _ _ _ h => h) (Or.inl ⟨by rfl, ?gy7⟩) (by assumption) ?gr7
  case gy7 => (intro W9 hW9; obtain ⟨k0, k1, k2, k3, k4⟩ := hW9; first | (go_simp; done) | (go_simp; with_reducible rfl))
  simp only [Act.put, List.getElem_toArray, List.getElem_cons_succ, List.getElem_cons_zero, List.setIfInBounds_toArray, List.set_cons_zero, List.set_cons_succ]
  refine goes_take (i := 11) (v := ?gv8) rfl (by kernel_rfl) (by kernel_rfl) (by kernel_rfl) (by kernel_rfl) (fun _ _ _ h => h) (Or.inl ⟨by rfl, ?gy8⟩) (by assumption) ?gr8
  case gy8 => (intro W9 hW9; obtain ⟨k0, k1, k2, k3, k4⟩ := hW9; first | (go_simp; done) | (go_simp; with_reducible rfl))
  simp only [Act.put, List.getElem_toArray, List.getElem_cons_succ, List.getElem_cons_zero, List.setIfInBounds_toArray, List.set_cons_zero, List.set_cons_succ]
  refine goes_take (i := 13) (v := ?gv9) rfl (by kernel_rfl) (by kernel_rfl) (by kernel_rfl) (by kernel_rfl) (fun _ _ _ h => h) (Or.inl ⟨by rfl, ?gy9⟩) (by assumption) ?gr9
  case gy9 => (intro W9 hW9; obtain ⟨k0, k1, k2, k3, k4⟩ := hW9; first | (go_simp; done) | (go_simp; with_reducible rfl))
  simp only [Act.put, List.getElem_toArray, List.getElem_cons_succ, List.getElem_cons_zero, List.setIfInBounds_toArray, List.set_cons_zero, List.set_cons_succ]
  refine goes_take (i := 15) (v := ?gv10) rfl (by kernel_rfl) (by kernel_rfl) (by kernel_rfl) (by kernel_rfl) (fun _ _ _ h => h) (Or.inl ⟨by rfl, ?gy10⟩) (by assumption) ?gr10
  case gy10 => (intro W9 hW9; obtain ⟨k0, k1, k2, k3, k4⟩ := hW9; first | (go_simp; done) | (go_simp; with_reducible rfl))
  simp only [Act.put, List.getElem_toArray, List.getElem_cons_succ, List.getElem_cons_zero, List.setIfInBounds_toArray, List.set_cons_zero, List.set_cons_succ]
  refine goes_take (i := 16) (v := ?gv11) rfl (by kernel_rfl) (by kernel_rfl) (by kernel_rfl) (by kernel_rfl) (fun _ _ _ h => h) (Or.inl ⟨by rfl, ?gy11⟩) (by assumption) ?gr11
  case gy11 => (intro W9 hW9; obtain ⟨k0, k1, k2, k3, k4⟩ := hW9; first | (go_simp; done) | (go_simp; with_reducible rfl))
  simp only [Act.put, List.getElem_toArray, List.getElem_cons_succ, List.getElem_cons_zero, List.setIfInBounds_toArray, List.set_cons_zero, List.set_cons_succ]
  refine goes_one (i := 12) (by kernel_rfl) rfl (fun K9 hK9 => ?_)
  go_simp
  refine (HSTO.out w8 hb8).mono ?_
  rintro e w9 ⟨v9, l9, rfl, HR9, HL9, HB9⟩
  have hb9 := hb8.trans (HB9.out.mono hb8.size)
  obtain ⟨k0, k1, k2, k3, k4⟩ := hHeld
  refine hK9.out _ _ (fun _ => ⟨cell_below HB9.out k0, cell_below HB9.out k1, cell_below HB9.out k2, cell_below HB9.out k3, cell_below HB9.out k4⟩) (fun hHeld => ?_)
  have hHeld := hHeld (by decide)
  clear hK9 K9 k0 k1 k2 k3 k4
  refine goes_one (i := 14) (by kernel_rfl) rfl (fun K9 hK9 => ?_)
  go_simp
  refine (HPLA.out w9 hb9).mono ?_
  rintro e w10 ⟨vb10, rfl, HV10, HB10⟩
  have hb10 := hb9.trans (HB10.out.mono hb9.size)
  obtain ⟨k0, k1, k2, k3, k4⟩ := hHeld
  refine hK9.out _ _ (fun _ => ⟨cell_below HB10.out k0, cell_below HB10.out k1, cell_below HB10.out k2, cell_below HB10.out k3, cell_below HB10.out k4⟩) (fun hHeld => ?_)
  have hHeld := hHeld (by decide)
  clear hK9 K9 k0 k1 k2 k3 k4
  refine goes_one (i := 17) (by kernel_rfl) rfl (fun K9 hK9 => ?_)
  go_simp
  refine (HRST.out w10 vb10 hb10 HV10.out).mono ?_
  rintro e w11 ⟨v11, S11, rfl, HR11, HS11, HB11⟩
  have hb11 := hb10.trans (HB11.out.mono hb10.size)
  obtain ⟨k0, k1, k2, k3, k4⟩ := hHeld
  refine hK9.out _ _ (fun _ => ⟨cell_below HB11.out k0, cell_below HB11.out k1, cell_below HB11.out k2, cell_below HB11.out k3, cell_below HB11.out k4⟩) (fun hHeld => ?_)
  have hHeld := hHeld (by decide)
  clear hK9 K9 k0 k1 k2 k3 k4
  refine goes_one (i := 18) (by kernel_rfl) rfl (fun K9 hK9 => ?_)
  go_simp
  refine (same_places (by omega) HL9.out HS11.out (row_keep HR9.out fun _ _ _ h1 => (HB11.out.block _ (Nat.lt_of_lt_of_le (lt_of_block h1) HB10.out.size)).trans ((HB10.out.block _ (lt_of_block h1)).trans h1)) HR11.out).mono ?_
  rintro e w12 ⟨rfl, hb1112⟩
  have hb12 := hb11.trans (hb1112.mono hb11.size)
  obtain ⟨k0, k1, k2, k3, k4⟩ := hHeld
  refine hK9.out _ _ (fun _ => ⟨cell_below hb1112 k0, cell_below hb1112 k1, cell_below hb1112 k2, cell_below hb1112 k3, cell_below hb1112 k4⟩) (fun hHeld => ?_)
  have hHeld := hHeld (by decide)
  clear hK9 K9 k0 k1 k2 k3 k4
  refine goes_take (i := 19) (v := (.bool true)) rfl (by kernel_rfl) (by kernel_rfl) (by kernel_rfl) (by kernel_rfl) (fun _ _ _ h => h) (Or.inl ⟨by rfl, ?gy12⟩) (by assumption) ?gr12
  case gy12 => (intro W9 hW9; obtain ⟨k0, k1, k2, k3, k4⟩ := hW9; first | (go_simp; done) | (go_simp; with_reducible rfl))
  simp only [Act.put, List.getElem_toArray, List.getElem_cons_succ, List.getElem_cons_zero, List.setIfInBounds_toArray, List.set_cons_zero, List.set_cons_succ]
  refine goes_one (i := 20) (by kernel_rfl) rfl (fun K9 hK9 => ?_)
  go_simp
  refine hK9.out _ _ (fun h => absurd rfl h) (fun _ => ?_)
  clear hK9 K9 hHeld
  refine goes_done (by kernel_rfl) ?_ _
  go_wp2
  go_ret
  exact ⟨rfl, HW4.out.trans (hb12.mono HW4.out.size)⟩
end Go.Proofs.YtpfhhdiipedklaaDoor
