/- The walk of DfacodePuts. -/
import Derived.Test.YtmhjabodhgacnaaPZ
import Derived.Test.YtmhjabodhgacnaaPY
set_option maxRecDepth 100000
namespace Go.Proofs.Ytmhjabodhgacnaa
open Go.RowKit

theorem below_eq {w w' : World} (h : w' = w) : Below w.heap.size w w' := by rw [h]; exact Below.refl _ _
theorem put_s (v : Value) (m : List Sta) (w : World) (hv : MachAt w v m) (hl : ∀ s ∈ m, s.arcs.length < 9223372036854775808) (hm : Mays m) :
    Calls Try.prog 9 #[v] w fun e w' => ∃ a c, e = .returned (.tuple #[.slice a (putS m).length c, .int .i64 (errV (checkB m))]) ∧ Hid (OwnF w' w.heap.size (.slice a (putS m).length c) (putS m)) ∧ Hid (Below w.heap.size w w') :=
  (put_any v m w hv hl hm).mono fun e w' ⟨u, h1, h2, h3⟩ => by
    have h2 : Hid (OwnF w' w.heap.size u (putS m)) := h2
    obtain ⟨a, c, rfl⟩ := h2.out.form
    exact ⟨a, c, h1, h2, h3⟩
set_option linter.unusedSimpArgs false in
set_option maxHeartbeats 16000000 in
theorem puts_law (v : Value) (m : List Sta) (n : Nat) (v2 : Value) (l : List Nat) (w : World) (hv : MachAt w v m) (hml : m.length < 9223372036854775808) (hl : ∀ s ∈ m, s.arcs.length < 9223372036854775808) (hm : Mays m) (hn : n < 18446744073709551616) (hb : BytesAt w v2 l) (hbl : l.length < 9223372036854775808) (hx : ∀ x ∈ l, x < 256) :
    Calls Try.prog 3 #[v, .int .u64 n, v2] w fun e w' => e = .returned (.bool true) ∧ Below w.heap.size w w' := by
  have mixed : Try.prog.follows .mixedOrders = true := by kernel_rfl
  obtain ⟨N, hN⟩ : ∃ N, w.heap.size = N := ⟨_, rfl⟩
  have HN := Lib.hid hN
  have HV := Lib.hid (fun W (hW : Below N w W) => hv.below (by rw [hN]; exact hW))
  have HY := Lib.hid (fun W (hW : Below N w W) => hb.below (by rw [hN]; exact hW))
  obtain ⟨av, cv, rfl⟩ := hv.len
  obtain ⟨ab, cb, rfl, _⟩ := hb.len
  have HAW : Hid (∀ W, Calls Try.prog 8 #[] W fun e w' => e = .returned (.bool true) ∧ Below W.heap.size W w') := Lib.hid awake_any
  have HPU := Lib.hid (fun W hW => put_s _ m W (HV.out W hW) hl hm)
  have HRP := Lib.hid (fun W hW => rput_any _ m W (HV.out W hW) hl hm)
  have HNU := Lib.hid (fun W => number11_any n W hn)
  have HRN := Lib.hid (fun W => rnumber_any n hn W)
  have HXB := Lib.hid hx
  have HSE : Hid (bytesOf (strOf l) = l) := Lib.hid (strOf_bytes hx)
  obtain ⟨P, hP⟩ : ∃ P, putS m = P := ⟨_, rfl⟩
  obtain ⟨er, her⟩ : ∃ er, errV (checkB m) = er := ⟨_, rfl⟩
  obtain ⟨sP, hsP⟩ : ∃ sP, strOf P = sP := ⟨_, rfl⟩
  have HSP := Lib.hid hsP
  rw [hP, her] at HPU HRP
  rw [hsP] at HRP
  obtain ⟨sn, hsn⟩ : ∃ sn, strOf (numB n) = sn := ⟨_, rfl⟩
  have HSN := Lib.hid hsn
  rw [hsn] at HRN
  clear hv hb hl hm hn hx hP her hsP hsn
  rw [hN]
  by_cases h20 : m.length ≤ 20
  · have d1 : decide ((m.length : Int) > 20) = false := decide_eq_false (by omega)
    have d2 : decide ((20 : Int) < m.length) = false := decide_eq_false (by omega)
    have d3 : decide (20 < m.length) = false := decide_eq_false (by omega)
    by_cases h100 : l.length ≤ 100
    · have e1 : decide ((l.length : Int) > 100) = false := decide_eq_false (by omega)
      have e2 : decide ((100 : Int) < l.length) = false := decide_eq_false (by omega)
      have e3 : decide (100 < l.length) = false := decide_eq_false (by omega)
      have HVA := Lib.hid (fun W hW => value_any _ l W (HY.out W hW) hbl HXB.out)
      have HRV := Lib.hid (fun W => rvalue_any (strOf l) l HSE.out (by omega) W)
      have HSU := Lib.hid (fun W hW => sum_any _ l W (HY.out W hW) hbl HXB.out)
      have HRS := Lib.hid (fun W => rsum_any (strOf l) l HSE.out (by rw [strOf_size]; omega) W)
      obtain ⟨sl, hsl⟩ : ∃ sl, strOf l = sl := ⟨_, rfl⟩
      have HSL := Lib.hid hsl
      rw [hsl] at HRV HRS
      obtain ⟨p, hp⟩ : ∃ p, valB l = p := ⟨_, rfl⟩
      rw [hp] at HVA HRV
      obtain ⟨q, hq⟩ : ∃ q, sumB l = q := ⟨_, rfl⟩
      rw [hq] at HSU HRS
      clear hsl hp hq hbl hml
      go_enter Try.func3, Try.ntmps3
      go_upto_region 7 with (first
        | (go_at_call 8; (with_reducible refine (HAW.out _).mono ?_); rintro e w2 ⟨rfl, hb2⟩; have HB2 : Hid (Below N w w2) := Lib.hid (by rw [← HN.out]; exact hb2); have HPU2 := Lib.hid (HPU.out w2 HB2.out); clear hb2)
        | (go_at_call 9; (with_reducible refine HPU2.out.mono ?_); rintro e w3 ⟨a3, c3, rfl, ho3, hb3⟩))
      have HO3 := ho3
      have HB3 : Hid (Below N w w3) := Lib.hid (HB2.out.trans (hb3.out.mono (by rw [← HN.out]; exact HB2.out.size)))
      have HRP3 := Lib.hid (HRP.out w3 HB3.out)
      clear ho3 hb3
      go_upto_region 8 with (go_at_call 10; (with_reducible refine HRP3.out.mono ?_); rintro e w4 ⟨rfl, hb4⟩)
      have HO4 := Lib.hid (HO3.out.below hb4.out)
      have HB4 : Hid (Below N w w4) := Lib.hid (HB3.out.trans (hb4.out.mono (by rw [← HN.out]; exact HB3.out.size)))
      have HVA4 := Lib.hid (HVA.out w4 HB4.out)
      have hcv := conv_bytes (HY.out w4 HB4.out)
      rw [HSL.out] at hcv
      clear hb4
      go_upto_region 10 with (first
        | (go_at_call 11; (with_reducible refine HVA4.out.mono ?_); rintro e w5 ⟨rfl, e5⟩; subst w5)
        | (go_at_call 12; (with_reducible refine (HRV.out _).mono ?_); rintro e w6 ⟨rfl, hb6⟩))
      have HO6 := Lib.hid (HO4.out.below hb6.out)
      have HB6 : Hid (Below N w w6) := Lib.hid (HB4.out.trans (hb6.out.mono (by rw [← HN.out]; exact HB4.out.size)))
      have HCX := Lib.hid (fun W (hW : Below w6.heap.size w6 W) => conv_bytes (HO6.out.bytes.below hW))
      rw [HSP.out] at HCX
      have HCY := Lib.hid (fun W (hW : Below w6.heap.size w6 W) => conv_bytes (HY.out W (HB6.out.trans (hW.mono (by rw [← HN.out]; exact HB6.out.size)))))
      rw [HSL.out] at HCY
      have HSU6 := Lib.hid (fun W (hW : Below w6.heap.size w6 W) => HSU.out W (HB6.out.trans (hW.mono (by rw [← HN.out]; exact HB6.out.size))))
      clear hb6 hcv
      refine region_goes 36 36 rfl (fun W => Below w6.heap.size w6 W) mixed (Below.refl _ _).drew (fun hHeld => ?_)
      refine goes_take0 (i := 0) (v := ?gwu1) rfl (by kernel_rfl) (by kernel_rfl) (by kernel_rfl) rfl (fun _ _ _ h => h) (Or.inl ⟨by rfl, ?gxu1⟩) (by assumption) ?gqu1
      case gxu1 => (intro W9 _; first | (go_simp; done) | (go_simp; with_reducible rfl))
      simp only [Act.put, List.getElem_toArray, List.getElem_cons_succ, List.getElem_cons_zero, List.setIfInBounds_toArray, List.set_cons_zero, List.set_cons_succ]
      refine goes_take0 (i := 1) (v := .string sP) rfl (by kernel_rfl) (by kernel_rfl) (by kernel_rfl) rfl (fun _ _ _ h => h) (Or.inl ⟨by rfl, ?gxu2⟩) (by assumption) ?gqu2
      case gxu2 => (intro W9 hW9; have hc := HCX.out W9 hW9; first | (go_simp; done) | (go_simp; with_reducible rfl))
      simp only [Act.put, List.getElem_toArray, List.getElem_cons_succ, List.getElem_cons_zero, List.setIfInBounds_toArray, List.set_cons_zero, List.set_cons_succ]
      refine goes_take0 (i := 2) (v := ?gwu3) rfl (by kernel_rfl) (by kernel_rfl) (by kernel_rfl) rfl (fun _ _ _ h => h) (Or.inl ⟨by rfl, ?gxu3⟩) (by assumption) ?gqu3
      case gxu3 => (intro W9 _; first | (go_simp; done) | (go_simp; with_reducible rfl))
      simp only [Act.put, List.getElem_toArray, List.getElem_cons_succ, List.getElem_cons_zero, List.setIfInBounds_toArray, List.set_cons_zero, List.set_cons_succ]
      refine goes_take0 (i := 3) (v := .bool true) rfl (by kernel_rfl) (by kernel_rfl) (by kernel_rfl) rfl (fun _ _ _ h => h) (Or.inl ⟨by rfl, ?gxu4⟩) (by assumption) ?gqu4
      case gxu4 => (intro W9 _; first | (go_simp; done) | (go_simp; with_reducible rfl))
      simp only [Act.put, List.getElem_toArray, List.getElem_cons_succ, List.getElem_cons_zero, List.setIfInBounds_toArray, List.set_cons_zero, List.set_cons_succ]
      refine goes_take0 (i := 4) (v := ?gwu5) rfl (by kernel_rfl) (by kernel_rfl) (by kernel_rfl) rfl (fun _ _ _ h => h) (Or.inl ⟨by rfl, ?gxu5⟩) (by assumption) ?gqu5
      case gxu5 => (intro W9 _; first | (go_simp; done) | (go_simp; with_reducible rfl))
      simp only [Act.put, List.getElem_toArray, List.getElem_cons_succ, List.getElem_cons_zero, List.setIfInBounds_toArray, List.set_cons_zero, List.set_cons_succ]
      refine goes_take0 (i := 5) (v := ?gwu6) rfl (by kernel_rfl) (by kernel_rfl) (by kernel_rfl) rfl (fun _ _ _ h => h) (Or.inl ⟨by rfl, ?gxu6⟩) (by assumption) ?gqu6
      case gxu6 => (intro W9 _; first | (go_simp; done) | (go_simp; with_reducible rfl))
      simp only [Act.put, List.getElem_toArray, List.getElem_cons_succ, List.getElem_cons_zero, List.setIfInBounds_toArray, List.set_cons_zero, List.set_cons_succ]
      refine goes_take0 (i := 6) (v := ?gwu7) rfl (by kernel_rfl) (by kernel_rfl) (by kernel_rfl) rfl (fun _ _ _ h => h) (Or.inl ⟨by rfl, ?gxu7⟩) (by assumption) ?gqu7
      case gxu7 => (intro W9 _; first | (go_simp; done) | (go_simp; with_reducible rfl))
      simp only [Act.put, List.getElem_toArray, List.getElem_cons_succ, List.getElem_cons_zero, List.setIfInBounds_toArray, List.set_cons_zero, List.set_cons_succ]
      refine goes_take0 (i := 7) (v := .bool true) rfl (by kernel_rfl) (by kernel_rfl) (by kernel_rfl) rfl (fun _ _ _ h => h) (Or.inl ⟨by rfl, ?gxu8⟩) (by assumption) ?gqu8
      case gxu8 => (intro W9 _; first | (go_simp; done) | (go_simp; with_reducible rfl))
      simp only [Act.put, List.getElem_toArray, List.getElem_cons_succ, List.getElem_cons_zero, List.setIfInBounds_toArray, List.set_cons_zero, List.set_cons_succ]
      refine goes_take0 (i := 8) (v := ?gwu9) rfl (by kernel_rfl) (by kernel_rfl) (by kernel_rfl) rfl (fun _ _ _ h => h) (Or.inl ⟨by rfl, ?gxu9⟩) (by assumption) ?gqu9
      case gxu9 => (intro W9 _; first | (go_simp; done) | (go_simp; with_reducible rfl))
      simp only [Act.put, List.getElem_toArray, List.getElem_cons_succ, List.getElem_cons_zero, List.setIfInBounds_toArray, List.set_cons_zero, List.set_cons_succ]
      refine goes_take0 (i := 9) (v := ?gwu10) rfl (by kernel_rfl) (by kernel_rfl) (by kernel_rfl) rfl (fun _ _ _ h => h) (Or.inl ⟨by rfl, ?gxu10⟩) (by assumption) ?gqu10
      case gxu10 => (intro W9 _; first | (go_simp; done) | (go_simp; with_reducible rfl))
      simp only [Act.put, List.getElem_toArray, List.getElem_cons_succ, List.getElem_cons_zero, List.setIfInBounds_toArray, List.set_cons_zero, List.set_cons_succ]
      refine goes_take0 (i := 10) (v := ?gwu11) rfl (by kernel_rfl) (by kernel_rfl) (by kernel_rfl) rfl (fun _ _ _ h => h) (Or.inl ⟨by rfl, ?gxu11⟩) (by assumption) ?gqu11
      case gxu11 => (intro W9 _; first | (go_simp; done) | (go_simp; with_reducible rfl))
      simp only [Act.put, List.getElem_toArray, List.getElem_cons_succ, List.getElem_cons_zero, List.setIfInBounds_toArray, List.set_cons_zero, List.set_cons_succ]
      refine goes_take0 (i := 13) (v := ?gwu12) rfl (by kernel_rfl) (by kernel_rfl) (by kernel_rfl) rfl (fun _ _ _ h => h) (Or.inl ⟨by rfl, ?gxu12⟩) (by assumption) ?gqu12
      case gxu12 => (intro W9 _; first | (go_simp; done) | (go_simp; with_reducible rfl))
      simp only [Act.put, List.getElem_toArray, List.getElem_cons_succ, List.getElem_cons_zero, List.setIfInBounds_toArray, List.set_cons_zero, List.set_cons_succ]
      refine goes_one (i := 11) (by kernel_rfl) rfl (fun K9 hK9 => ?_)
      go_simp
      with_reducible refine (HNU.out _).mono ?_
      rintro e w7 ⟨v7, rfl, ho7, hb7⟩
      obtain ⟨a7, c7, rfl⟩ := ho7.out.form
      have hAnw7 := hHeld.trans ((hb7.out).mono hHeld.size)
      refine hK9.out _ _ (fun _ => hAnw7) (fun _ => ?_)
      clear hK9 K9 hHeld
      refine Goes.more (S2 := fun W => Below w7.heap.size w7 W) (fun W h => hAnw7.trans (h.mono hAnw7.size)) ?_
      have hHeld := Below.refl w7.heap.size w7
      refine goes_take0 (i := 12) (v := .string sn) rfl (by kernel_rfl) (by kernel_rfl) (by kernel_rfl) rfl (fun _ _ _ h => h) (Or.inl ⟨by rfl, ?gxu13⟩) (by assumption) ?gqu13
      case gxu13 => (intro W9 hW9; have hc := conv_bytes (ho7.out.bytes.below hW9); rw [HSN.out] at hc; first | (go_simp; done) | (go_simp; with_reducible rfl))
      simp only [Act.put, List.getElem_toArray, List.getElem_cons_succ, List.getElem_cons_zero, List.setIfInBounds_toArray, List.set_cons_zero, List.set_cons_succ]
      refine goes_one (i := 14) (by kernel_rfl) rfl (fun K9 hK9 => ?_)
      go_simp
      with_reducible refine (HRN.out _).mono ?_
      rintro e w8 ⟨rfl, hb8⟩
      have hAnw8 := hHeld.trans ((hb8.out).mono hHeld.size)
      refine hK9.out _ _ (fun _ => hAnw8) (fun _ => ?_)
      clear hK9 K9 hHeld
      refine Goes.more (S2 := fun W => Below w8.heap.size w8 W) (fun W h => hAnw8.trans (h.mono hAnw8.size)) ?_
      have hHeld := Below.refl w8.heap.size w8
      refine goes_take0 (i := 15) (v := .bool true) rfl (by kernel_rfl) (by kernel_rfl) (by kernel_rfl) rfl (fun _ _ _ h => h) (Or.inl ⟨by rfl, ?gxu14⟩) (by assumption) ?gqu14
      case gxu14 => (intro W9 _; first | (go_simp; done) | (go_simp; with_reducible rfl))
      simp only [Act.put, List.getElem_toArray, List.getElem_cons_succ, List.getElem_cons_zero, List.setIfInBounds_toArray, List.set_cons_zero, List.set_cons_succ]
      refine goes_take0 (i := 16) (v := ?gwu15) rfl (by kernel_rfl) (by kernel_rfl) (by kernel_rfl) rfl (fun _ _ _ h => h) (Or.inl ⟨by rfl, ?gxu15⟩) (by assumption) ?gqu15
      case gxu15 => (intro W9 _; first | (go_simp; done) | (go_simp; with_reducible rfl))
      simp only [Act.put, List.getElem_toArray, List.getElem_cons_succ, List.getElem_cons_zero, List.setIfInBounds_toArray, List.set_cons_zero, List.set_cons_succ]
      refine goes_take0 (i := 17) (v := ?gwu16) rfl (by kernel_rfl) (by kernel_rfl) (by kernel_rfl) rfl (fun _ _ _ h => h) (Or.inl ⟨by rfl, ?gxu16⟩) (by assumption) ?gqu16
      case gxu16 => (intro W9 _; first | (go_simp; done) | (go_simp; with_reducible rfl))
      simp only [Act.put, List.getElem_toArray, List.getElem_cons_succ, List.getElem_cons_zero, List.setIfInBounds_toArray, List.set_cons_zero, List.set_cons_succ]
      refine goes_take0 (i := 18) (v := ?gwu17) rfl (by kernel_rfl) (by kernel_rfl) (by kernel_rfl) rfl (fun _ _ _ h => h) (Or.inl ⟨by rfl, ?gxu17⟩) (by assumption) ?gqu17
      case gxu17 => (intro W9 _; first | (go_simp; done) | (go_simp; with_reducible rfl))
      simp only [Act.put, List.getElem_toArray, List.getElem_cons_succ, List.getElem_cons_zero, List.setIfInBounds_toArray, List.set_cons_zero, List.set_cons_succ]
      refine goes_take0 (i := 19) (v := ?gwu18) rfl (by kernel_rfl) (by kernel_rfl) (by kernel_rfl) rfl (fun _ _ _ h => h) (Or.inl ⟨by rfl, ?gxu18⟩) (by assumption) ?gqu18
      case gxu18 => (intro W9 _; first | (go_simp; done) | (go_simp; with_reducible rfl))
      simp only [Act.put, List.getElem_toArray, List.getElem_cons_succ, List.getElem_cons_zero, List.setIfInBounds_toArray, List.set_cons_zero, List.set_cons_succ]
      refine goes_take0 (i := 20) (v := .bool true) rfl (by kernel_rfl) (by kernel_rfl) (by kernel_rfl) rfl (fun _ _ _ h => h) (Or.inl ⟨by rfl, ?gxu19⟩) (by assumption) ?gqu19
      case gxu19 => (intro W9 _; first | (go_simp; done) | (go_simp; with_reducible rfl))
      simp only [Act.put, List.getElem_toArray, List.getElem_cons_succ, List.getElem_cons_zero, List.setIfInBounds_toArray, List.set_cons_zero, List.set_cons_succ]
      refine goes_take0 (i := 21) (v := ?gwu20) rfl (by kernel_rfl) (by kernel_rfl) (by kernel_rfl) rfl (fun _ _ _ h => h) (Or.inl ⟨by rfl, ?gxu20⟩) (by assumption) ?gqu20
      case gxu20 => (intro W9 _; first | (go_simp; done) | (go_simp; with_reducible rfl))
      simp only [Act.put, List.getElem_toArray, List.getElem_cons_succ, List.getElem_cons_zero, List.setIfInBounds_toArray, List.set_cons_zero, List.set_cons_succ]
      refine goes_take0 (i := 22) (v := ?gwu21) rfl (by kernel_rfl) (by kernel_rfl) (by kernel_rfl) rfl (fun _ _ _ h => h) (Or.inl ⟨by rfl, ?gxu21⟩) (by assumption) ?gqu21
      case gxu21 => (intro W9 _; first | (go_simp; done) | (go_simp; with_reducible rfl))
      simp only [Act.put, List.getElem_toArray, List.getElem_cons_succ, List.getElem_cons_zero, List.setIfInBounds_toArray, List.set_cons_zero, List.set_cons_succ]
      refine goes_take0 (i := 23) (v := ?gwu22) rfl (by kernel_rfl) (by kernel_rfl) (by kernel_rfl) rfl (fun _ _ _ h => h) (Or.inl ⟨by rfl, ?gxu22⟩) (by assumption) ?gqu22
      case gxu22 => (intro W9 _; first | (go_simp; done) | (go_simp; with_reducible rfl))
      simp only [Act.put, List.getElem_toArray, List.getElem_cons_succ, List.getElem_cons_zero, List.setIfInBounds_toArray, List.set_cons_zero, List.set_cons_succ]
      refine goes_take0 (i := 24) (v := ?gwu23) rfl (by kernel_rfl) (by kernel_rfl) (by kernel_rfl) rfl (fun _ _ _ h => h) (Or.inl ⟨by rfl, ?gxu23⟩) (by assumption) ?gqu23
      case gxu23 => (intro W9 _; first | (go_simp; done) | (go_simp; with_reducible rfl))
      simp only [Act.put, List.getElem_toArray, List.getElem_cons_succ, List.getElem_cons_zero, List.setIfInBounds_toArray, List.set_cons_zero, List.set_cons_succ]
      refine goes_take0 (i := 25) (v := .bool true) rfl (by kernel_rfl) (by kernel_rfl) (by kernel_rfl) rfl (fun _ _ _ h => h) (Or.inl ⟨by rfl, ?gxu24⟩) (by assumption) ?gqu24
      case gxu24 => (intro W9 _; first | (go_simp; done) | (go_simp; with_reducible rfl))
      simp only [Act.put, List.getElem_toArray, List.getElem_cons_succ, List.getElem_cons_zero, List.setIfInBounds_toArray, List.set_cons_zero, List.set_cons_succ]
      refine goes_take0 (i := 26) (v := ?gwu25) rfl (by kernel_rfl) (by kernel_rfl) (by kernel_rfl) rfl (fun _ _ _ h => h) (Or.inl ⟨by rfl, ?gxu25⟩) (by assumption) ?gqu25
      case gxu25 => (intro W9 _; first | (go_simp; done) | (go_simp; with_reducible rfl))
      simp only [Act.put, List.getElem_toArray, List.getElem_cons_succ, List.getElem_cons_zero, List.setIfInBounds_toArray, List.set_cons_zero, List.set_cons_succ]
      refine goes_take0 (i := 27) (v := ?gwu26) rfl (by kernel_rfl) (by kernel_rfl) (by kernel_rfl) rfl (fun _ _ _ h => h) (Or.inl ⟨by rfl, ?gxu26⟩) (by assumption) ?gqu26
      case gxu26 => (intro W9 _; first | (go_simp; done) | (go_simp; with_reducible rfl))
      simp only [Act.put, List.getElem_toArray, List.getElem_cons_succ, List.getElem_cons_zero, List.setIfInBounds_toArray, List.set_cons_zero, List.set_cons_succ]
      refine goes_take0 (i := 28) (v := ?gwu27) rfl (by kernel_rfl) (by kernel_rfl) (by kernel_rfl) rfl (fun _ _ _ h => h) (Or.inl ⟨by rfl, ?gxu27⟩) (by assumption) ?gqu27
      case gxu27 => (intro W9 _; first | (go_simp; done) | (go_simp; with_reducible rfl))
      simp only [Act.put, List.getElem_toArray, List.getElem_cons_succ, List.getElem_cons_zero, List.setIfInBounds_toArray, List.set_cons_zero, List.set_cons_succ]
      refine goes_take0 (i := 30) (v := ?gwu28) rfl (by kernel_rfl) (by kernel_rfl) (by kernel_rfl) rfl (fun _ _ _ h => h) (Or.inl ⟨by rfl, ?gxu28⟩) (by assumption) ?gqu28
      case gxu28 => (intro W9 _; first | (go_simp; done) | (go_simp; with_reducible rfl))
      simp only [Act.put, List.getElem_toArray, List.getElem_cons_succ, List.getElem_cons_zero, List.setIfInBounds_toArray, List.set_cons_zero, List.set_cons_succ]
      refine goes_take0 (i := 31) (v := .string sl) rfl (by kernel_rfl) (by kernel_rfl) (by kernel_rfl) rfl (fun _ _ _ h => h) (Or.inl ⟨by rfl, ?gxu29⟩) (by assumption) ?gqu29
      case gxu29 => (intro W9 hW9; have hc := HCY.out W9 (hAnw7.trans ((hAnw8.trans (hW9.mono hAnw8.size)).mono hAnw7.size)); first | (go_simp; done) | (go_simp; with_reducible rfl))
      simp only [Act.put, List.getElem_toArray, List.getElem_cons_succ, List.getElem_cons_zero, List.setIfInBounds_toArray, List.set_cons_zero, List.set_cons_succ]
      refine goes_one (i := 29) (by kernel_rfl) rfl (fun K9 hK9 => ?_)
      go_simp
      with_reducible refine (HSU6.out _ (hAnw7.trans ((hAnw8.trans (hHeld.mono hAnw8.size)).mono hAnw7.size))).mono ?_
      rintro e w9 ⟨rfl, e9⟩
      have hb9 := below_eq e9
      clear e9
      have hAnw9 := hHeld.trans ((hb9).mono hHeld.size)
      refine hK9.out _ _ (fun _ => hAnw9) (fun _ => ?_)
      clear hK9 K9 hHeld
      refine Goes.more (S2 := fun W => Below w9.heap.size w9 W) (fun W h => hAnw9.trans (h.mono hAnw9.size)) ?_
      have hHeld := Below.refl w9.heap.size w9
      refine goes_one (i := 32) (by kernel_rfl) rfl (fun K9 hK9 => ?_)
      go_simp
      with_reducible refine (HRS.out _).mono ?_
      rintro e w10 ⟨rfl, e10⟩
      have hb10 := below_eq e10
      clear e10
      have hAnw10 := hHeld.trans ((hb10).mono hHeld.size)
      refine hK9.out _ _ (fun _ => hAnw10) (fun _ => ?_)
      clear hK9 K9 hHeld
      refine Goes.more (S2 := fun W => Below w10.heap.size w10 W) (fun W h => hAnw10.trans (h.mono hAnw10.size)) ?_
      have hHeld := Below.refl w10.heap.size w10
      refine goes_take0 (i := 33) (v := .bool true) rfl (by kernel_rfl) (by kernel_rfl) (by kernel_rfl) rfl (fun _ _ _ h => h) (Or.inl ⟨by rfl, ?gxu30⟩) (by assumption) ?gqu30
      case gxu30 => (intro W9 _; first | (go_simp; done) | (go_simp; with_reducible rfl))
      simp only [Act.put, List.getElem_toArray, List.getElem_cons_succ, List.getElem_cons_zero, List.setIfInBounds_toArray, List.set_cons_zero, List.set_cons_succ]
      refine goes_take0 (i := 34) (v := ?gwu31) rfl (by kernel_rfl) (by kernel_rfl) (by kernel_rfl) rfl (fun _ _ _ h => h) (Or.inl ⟨by rfl, ?gxu31⟩) (by assumption) ?gqu31
      case gxu31 => (intro W9 _; first | (go_simp; done) | (go_simp; with_reducible rfl))
      simp only [Act.put, List.getElem_toArray, List.getElem_cons_succ, List.getElem_cons_zero, List.setIfInBounds_toArray, List.set_cons_zero, List.set_cons_succ]
      refine goes_take0 (i := 35) (v := ?gwu32) rfl (by kernel_rfl) (by kernel_rfl) (by kernel_rfl) rfl (fun _ _ _ h => h) (Or.inl ⟨by rfl, ?gxu32⟩) (by assumption) ?gqu32
      case gxu32 => (intro W9 _; first | (go_simp; done) | (go_simp; with_reducible rfl))
      simp only [Act.put, List.getElem_toArray, List.getElem_cons_succ, List.getElem_cons_zero, List.setIfInBounds_toArray, List.set_cons_zero, List.set_cons_succ]
      refine goes_done (by kernel_rfl) ?_ _
      go_wp2
      go_ret
      exact ⟨rfl, HB6.out.trans ((hAnw7.trans ((hAnw8.trans ((hAnw9.trans (hAnw10.mono hAnw9.size)).mono hAnw8.size)).mono hAnw7.size)).mono (by rw [← HN.out]; exact HB6.out.size))⟩
    · have e1 : decide ((l.length : Int) > 100) = true := decide_eq_true (by omega)
      have e2 : decide ((100 : Int) < l.length) = true := decide_eq_true (by omega)
      have e3 : decide (100 < l.length) = true := decide_eq_true (by omega)
      clear h100 hbl
      go_enter Try.func3, Try.ntmps3
      go_wp2_with (go_at_call 8; (with_reducible refine (HAW.out _).mono ?_); rintro e w2 ⟨rfl, hb2⟩; have HB2 : Hid (Below N w w2) := Lib.hid (by rw [← HN.out]; exact hb2); clear hb2)
      go_ret
      exact ⟨rfl, HB2.out⟩
  · have d1 : decide ((m.length : Int) > 20) = true := decide_eq_true (by omega)
    have d2 : decide ((20 : Int) < m.length) = true := decide_eq_true (by omega)
    have d3 : decide (20 < m.length) = true := decide_eq_true (by omega)
    clear h20 hbl hml
    go_enter Try.func3, Try.ntmps3
    go_wp2_with (go_at_call 8; (with_reducible refine (HAW.out _).mono ?_); rintro e w2 ⟨rfl, hb2⟩; have HB2 : Hid (Below N w w2) := Lib.hid (by rw [← HN.out]; exact hb2); clear hb2)
    go_ret
    exact ⟨rfl, HB2.out⟩
end Go.Proofs.Ytmhjabodhgacnaa
