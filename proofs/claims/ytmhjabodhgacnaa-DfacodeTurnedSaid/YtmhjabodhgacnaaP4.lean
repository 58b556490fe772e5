/- The walk of DfacodeTurned. -/
import Derived.Test.YtmhjabodhgacnaaP2
import Derived.Test.YtmhjabodhgacnaaXH
set_option maxRecDepth 100000
namespace Go.Proofs.Ytmhjabodhgacnaa
open Go.RowKit

theorem u8_xor_nat (a b : Nat) (ha : a < 256) (hb : b < 256) : bits .xor .u8 (a : Int) (b : Int) = ((a ^^^ b : Nat) : Int) := by
  have hx : a ^^^ b < 2 ^ 8 := Nat.xor_lt_two_pow (by omega) (by omega)
  have h1 : (BitVec.ofInt 8 (a : Int)).toNat = a := by
    rw [BitVec.ofInt_natCast, BitVec.toNat_ofNat]; exact Nat.mod_eq_of_lt (by omega)
  have h2 : (BitVec.ofInt 8 (b : Int)).toNat = b := by
    rw [BitVec.ofInt_natCast, BitVec.toNat_ofNat]; exact Nat.mod_eq_of_lt (by omega)
  show IntKind.u8.wrap ((BitVec.ofInt 8 (a : Int) ^^^ BitVec.ofInt 8 (b : Int)).toNat : Int) = _
  rw [BitVec.toNat_xor, h1, h2, wrap_u8]
  omega
theorem i64_and_low (n : Int) : ∃ a : Nat, bits .and .i64 n 65535 = (a : Int) ∧ a ≤ 65535 := by
  refine ⟨(BitVec.ofInt 64 n &&& BitVec.ofInt 64 65535).toNat, ?_, ?_⟩
  · show IntKind.i64.wrap ((BitVec.ofInt 64 n &&& BitVec.ofInt 64 65535).toNat : Int) = _
    have h : (BitVec.ofInt 64 n &&& BitVec.ofInt 64 65535).toNat ≤ 65535 := by
      rw [BitVec.toNat_and]
      exact Nat.le_trans Nat.and_le_right (by decide)
    rw [IntKind.wrap_i64]
    omega
  · rw [BitVec.toNat_and]
    exact Nat.le_trans Nat.and_le_right (by decide)
theorem xor_other {a b : Nat} (hb : b ≠ 0) : a ^^^ b ≠ a := by
  intro h
  apply hb
  have : a ^^^ b = a ^^^ 0 := by rw [h, Nat.xor_zero]
  exact xor_right this
theorem back_frozen (w : World) (s : ByteArray) (k : Nat) (hk : k < s.size) : (Lib.bytesWorld w 5 s).frozen? ⟨w.heap.size, k, none⟩ = false := by
  have h := Lib.bytesWorld_at_new w 5 s
  unfold World.frozen?
  rw [h]
  have hsz : k < (Lib.bytesCells w 5 s).size := by
    unfold Lib.bytesCells
    rw [Array.size_append, Array.size_map]
    have : s.data.size = s.size := rfl
    omega
  simp only [Bool.and_eq_false_iff, decide_eq_false_iff_not]
  left
  omega
theorem set_at {w : World} {b n c k y : Nat} {l : List Nat} (h : BytesAt w (.slice (some ⟨b, 0, none⟩) n c) l) (hk : k < l.length) : BytesAt (w.setCell ⟨b, k, none⟩ (.int .u8 (y : Nat))) (.slice (some ⟨b, 0, none⟩) n c) (l.set k y) := by
  obtain ⟨a, c', e, hc, h1⟩ := h
  cases e
  refine ⟨_, c, by rw [List.length_set], by rw [List.length_set]; exact hc, fun i hi => ⟨b, 0, rfl, ?_⟩⟩
  rw [List.length_set] at hi
  obtain ⟨b2, o2, e2, h2⟩ := h1 i hi
  cases e2
  obtain ⟨b3, o3, e3, h3⟩ := h1 k hk
  cases e3
  rw [Nat.zero_add] at h2 h3 ⊢
  rw [List.getElem_set]
  by_cases e : k = i
  · subst e
    rw [if_pos rfl]
    exact World.cell?_setCell_same' _ _ _ (by rw [h3]; rfl)
  · rw [if_neg e, World.cell?_setCell_other]
    · exact h2
    · intro e4
      injection e4 with _ e5
      exact e e5
set_option maxHeartbeats 16000000 in
theorem turned_law (v : Value) (m : List Sta) (n : Int) (by_ : Nat) (w : World) (hv : MachAt w v m) (hml : m.length < 9223372036854775808) (hl : ∀ s ∈ m, s.arcs.length < 9223372036854775808) (hm : Mays m) (hby : by_ < 256) :
    Calls Try.prog 6 #[v, .int .i64 n, .int .u8 by_] w fun e w' => e = .returned (.bool true) ∧ Below w.heap.size w w' := by
  obtain ⟨N, hN⟩ : ∃ N, w.heap.size = N := ⟨_, rfl⟩
  have HN := Lib.hid hN
  have HV := Lib.hid (fun W (hW : Below N w W) => hv.below (by rw [hN]; exact hW))
  obtain ⟨av, cv, rfl⟩ := hv.len
  have HAW : Hid (∀ W, Calls Try.prog 8 #[] W fun e w' => e = .returned (.bool true) ∧ Below W.heap.size W w') := Lib.hid awake_any
  have HL := Lib.hid hl
  have HM := Lib.hid hm
  have HCK := Lib.hid (fun W hW => rcheck07_any _ m W (HV.out W hW) hl hm)
  clear hv hl hm
  rw [hN]
  by_cases h20 : m.length ≤ 20
  · have d1 : decide ((m.length : Int) > 20) = false := decide_eq_false (by omega)
    have d2 : decide ((20 : Int) < m.length) = false := decide_eq_false (by omega)
    have d3 : decide (20 < m.length) = false := decide_eq_false (by omega)
    cases hc : checkB m
    · rw [hc] at HCK
      have HCK : Hid (∀ W, Below N w W → Calls Try.prog 21 #[.slice av m.length cv] W fun e w' => e = .returned (.int .i64 110) ∧ Below W.heap.size W w') := HCK
      clear hc
      go_enter Try.func6, Try.ntmps6
      go_wp2_with (first
        | (go_at_call 8; (with_reducible refine (HAW.out _).mono ?_); rintro e w2 ⟨rfl, hb2⟩; have HB2 : Hid (Below N w w2) := Lib.hid (by rw [← HN.out]; exact hb2); have HCK2 := Lib.hid (HCK.out w2 HB2.out); clear hb2)
        | (go_at_call 21; (with_reducible refine HCK2.out.mono ?_); rintro e w3 ⟨rfl, hb3⟩; have HB3 : Hid (Below N w w3) := Lib.hid (HB2.out.trans (hb3.mono (by rw [← HN.out]; exact HB2.out.size))); clear hb3))
      go_ret
      exact ⟨rfl, HB3.out⟩
    · rw [hc] at HCK
      have HCK : Hid (∀ W, Below N w W → Calls Try.prog 21 #[.slice av m.length cv] W fun e w' => e = .returned (.int .i64 0) ∧ Below W.heap.size W w') := HCK
      have HPU := Lib.hid (fun W hW => put_yes _ m W (HV.out W hW) HL.out HM.out hc)
      have HPB := Lib.hid (putB_bytes (good_st hc HM.out))
      have HTN := Lib.hid (fun (k y : Nat) (hk : k < (putB m).length) (hy : y < 256) (hne : y ≠ (putB m)[k]) => turned_none hc HM.out hk hy hne)
      have HCN := Lib.hid (fun (k : Nat) (hk : k < (putB m).length) => cut_none hc HM.out hk)
      have hnp : (putB m).length ≤ 30000000 := by rw [putB_len]; have := bodyB_len (good_len hc) (good_st hc HM.out); omega
      have hnq : 0 < (putB m).length := by rw [putB_len]; omega
      obtain ⟨P, hP⟩ : ∃ P, putB m = P := ⟨_, rfl⟩
      rw [hP] at HPU HPB HTN HCN hnp hnq
      clear hc hP
      obtain ⟨a, ha, hal⟩ := i64_and_low n
      obtain ⟨np, hnpe⟩ : ∃ np, P.length = np := ⟨_, rfl⟩
      have HNP := Lib.hid hnpe
      rw [hnpe] at hnp hnq
      obtain ⟨k, hk⟩ : ∃ k, a % np = k := ⟨_, rfl⟩
      have hkn : k < np := by rw [← hk]; exact Nat.mod_lt _ hnq
      have hrem : (a : Int).tmod np = (k : Int) := by rw [← hk, Int.tmod_eq_emod_of_nonneg (by omega)]; exact (Int.natCast_emod _ _).symm
      have hrem2 : (a : Int) % np = (k : Int) := by rw [← hk]; exact (Int.natCast_emod _ _).symm
      have hkP : k < P.length := by rw [HNP.out]; exact hkn
      have hpk := HPB.out P[k] (List.getElem_mem hkP)
      obtain ⟨x, hx⟩ : ∃ x, P[k] = x := ⟨_, rfl⟩
      have hzx : by_ % 255 + 1 < 256 := by omega
      have hxo : (x ^^^ (by_ % 255 + 1)) < 256 := Nat.xor_lt_two_pow (n := 8) (by omega) hzx
      have HNO := Lib.hid (HTN.out k (x ^^^ (by_ % 255 + 1)) hkP hxo (by rw [hx]; exact xor_other (by omega)))
      have HCT := Lib.hid (HCN.out k hkP)
      have HX1 : Hid (bits .xor .u8 (x : Int) ((by_ : Int) % 255 + 1) = ((x ^^^ (by_ % 255 + 1) : Nat) : Int)) := Lib.hid (by
        have := u8_xor_nat x (by_ % 255 + 1) (by omega) hzx
        rw [← this, Int.natCast_add, Int.natCast_emod]; rfl)
      have HXK := Lib.hid hx
      have HKP := Lib.hid hkP
      obtain ⟨y, hy⟩ : ∃ y, (x ^^^ (by_ % 255 + 1)) = y := ⟨_, rfl⟩
      rw [hy] at HNO HX1 hxo
      have HYL := Lib.hid hxo
      rw [hnpe] at HPU
      clear hpk hx hzx hxo hy hnpe hk HTN HCN
      have ht1 : (by_ : Int).tmod 255 = (by_ : Int) % 255 := Int.tmod_eq_emod_of_nonneg (by omega)
      have ht2 : IntKind.u8.wrap ((by_ : Int) % 255 + 1) = (by_ : Int) % 255 + 1 := by rw [wrap_u8]; omega
      have HT1 := Lib.hid ht1
      have HT2 := Lib.hid ht2
      clear ht1 ht2
      obtain ⟨s, hs⟩ : ∃ s, strOf P = s := ⟨_, rfl⟩
      have HS : Hid (bytesOf s = P) := Lib.hid (by rw [← hs]; exact strOf_bytes HPB.out)
      have HSE := Lib.hid hs
      have HSZ : Hid (s.size = np) := Lib.hid (by rw [← hs, strOf_size]; exact HNP.out)
      clear hs
      go_enter Try.func6, Try.ntmps6
      go_upto_region 7 with (first
        | (go_at_call 8; (with_reducible refine (HAW.out _).mono ?_); rintro e w2 ⟨rfl, hb2⟩; have HB2 : Hid (Below N w w2) := Lib.hid (by rw [← HN.out]; exact hb2); have HCK2 := Lib.hid (HCK.out w2 HB2.out); clear hb2)
        | (go_at_call 21; (with_reducible refine HCK2.out.mono ?_); rintro e w3 ⟨rfl, hb3⟩; have HB3 : Hid (Below N w w3) := Lib.hid (HB2.out.trans (hb3.mono (by rw [← HN.out]; exact HB2.out.size))); have HPU3 := Lib.hid (HPU.out w3 HB3.out); clear hb3)
        | (go_at_call 9; (with_reducible refine HPU3.out.mono ?_); rintro e w4 ⟨a4, c4, rfl, ho4, hb4⟩))
      have HO4 := ho4
      have HB4 : Hid (Below N w w4) := Lib.hid (HB3.out.trans (hb4.out.mono (by rw [← HN.out]; exact HB3.out.size)))
      have hcv := conv_bytes HO4.out.bytes
      rw [HSE.out] at hcv
      have hcb := conv_back w4 s
      clear ho4 hb4
      go_upto_region 9 with fail
      have hcap := grownCap_ge w4 s.size 0 5
      obtain ⟨w5, hw5⟩ : ∃ w5, Lib.bytesWorld w4 5 s = w5 := ⟨_, rfl⟩
      obtain ⟨Q, hQ⟩ : ∃ Q, w4.heap.size = Q := ⟨_, rfl⟩
      have HQ := Lib.hid hQ
      obtain ⟨cp, hcp⟩ : ∃ cp, grownCap w4 s.size 0 5 = cp := ⟨_, rfl⟩
      have hks : k < s.size := by rw [HSZ.out]; exact hkn
      have hksi : (k : Int) < s.size := by omega
      have HY5 : Hid (BytesAt w5 (.slice (some ⟨Q, 0, none⟩) s.size cp) P) := Lib.hid (by rw [← hw5, ← hQ, ← hcp]; have h := back_at w4 s; rw [HS.out] at h; exact h)
      have HB45 : Hid (Below w4.heap.size w4 w5) := Lib.hid (by rw [← hw5]; exact below_bytes w4 _ s)
      have HQ5 : Hid (Q < w5.heap.size) := Lib.hid (by rw [← hw5, ← hQ, Lib.bytesWorld_size]; omega)
      have c0 : w5.cell? ⟨Q, k, none⟩ = some (.int .u8 x) := by
        obtain ⟨b1, o1, e1, h1⟩ := HY5.out.at HKP.out
        cases e1
        rw [Nat.zero_add, HXK.out] at h1
        exact h1
      have f0 : w5.frozen? ⟨Q, k, none⟩ = false := by rw [← hw5, ← hQ]; exact back_frozen w4 s k hks
      rw [hw5, hQ, hcp]
      clear hw5 hcp hcap hcb hcv
      have hx1 := HX1.out
      have ht1 := HT1.out
      have ht2 := HT2.out
      go_upto_region 10 with fail
      obtain ⟨w6, hw6⟩ : ∃ w6, w5.setCell ⟨Q, k, none⟩ (.int .u8 (y : Nat)) = w6 := ⟨_, rfl⟩
      have HY6 : Hid (BytesAt w6 (.slice (some ⟨Q, 0, none⟩) s.size cp) (P.set k y)) := Lib.hid (by rw [← hw6]; exact set_at HY5.out HKP.out)
      have HB46 : Hid (Below w4.heap.size w4 w6) := Lib.hid (by rw [← hw6]; exact HB45.out.setCell (show w4.heap.size ≤ Q by rw [HQ.out]; exact Nat.le_refl _) _)
      have HQ6 : Hid (Q < w6.heap.size) := Lib.hid (by rw [← hw6]; simp; exact HQ5.out)
      have HSB : Hid (∀ z ∈ P.set k y, z < 256) := Lib.hid (fun z hz => by
        rcases List.mem_or_eq_of_mem_set hz with h | h
        · exact HPB.out z h
        · rw [h]; exact HYL.out)
      have HG6 := Lib.hid (get_no _ (P.set k y) w6 HY6.out (by rw [List.length_set, HNP.out]; omega) HSB.out (fun q hq => by cases hq; exact HQ6.out) HNO.out)
      have HB6 : Hid (Below N w w6) := Lib.hid (HB4.out.trans (HB46.out.mono (by rw [← HN.out]; exact HB4.out.size)))
      rw [hw6]
      clear hw6 c0 f0 hx1 ht1 ht2
      go_upto_region 11 with (go_at_call 18; (with_reducible refine HG6.out.mono ?_); rintro e w7 ⟨a7, c7, rfl, hm7, hb7⟩)
      have HB7 : Hid (Below N w w7) := Lib.hid (HB6.out.trans (hb7.out.mono (by rw [← HN.out]; exact HB6.out.size)))
      have HO7 := Lib.hid (HO4.out.below (HB46.out.trans (hb7.out.mono HB46.out.size)))
      have hcc : np ≤ c4 := by obtain ⟨a', c', e, h, _⟩ := HO7.out.bytes; injection e with _ e2 e3; omega
      have HTK := Lib.hid (HO7.out.bytes.take (k := k) (Nat.le_of_lt HKP.out))
      have HLW := Lib.hid (low_sliced (l := 0) (h := k) (m := c4) (s := 1) (R := w7.heap.size) HO7.out.low)
      have hsl := slice_upto (w := w7) (a := a4) (n := np) (c := c4) (k := k) (by omega)
      obtain ⟨ua, un, uc, hu⟩ : ∃ ua un uc, sliced a4 0 k c4 1 = .slice ua un uc := ⟨_, _, _, rfl⟩
      rw [hu] at HTK HLW hsl
      have HG7 := Lib.hid (get_no _ (P.take k) w7 HTK.out (by rw [List.length_take, HNP.out]; omega) (fun z hz => HPB.out z (List.mem_of_mem_take hz)) HLW.out HCT.out)
      clear hu hm7 hb7
      go_wp2_with (go_at_call 18; (with_reducible refine HG7.out.mono ?_); rintro e w8 ⟨a8, c8, rfl, hm8, hb8⟩)
      go_ret
      exact ⟨rfl, HB7.out.trans (hb8.out.mono (by rw [← HN.out]; exact HB7.out.size))⟩
  · have d1 : decide ((m.length : Int) > 20) = true := decide_eq_true (by omega)
    have d2 : decide ((20 : Int) < m.length) = true := decide_eq_true (by omega)
    have d3 : decide (20 < m.length) = true := decide_eq_true (by omega)
    clear h20
    go_enter Try.func6, Try.ntmps6
    go_wp2_with (go_at_call 8; (with_reducible refine (HAW.out _).mono ?_); rintro e w2 ⟨rfl, hb2⟩; have HB2 : Hid (Below N w w2) := Lib.hid (by rw [← HN.out]; exact hb2); clear hb2)
    go_ret
    exact ⟨rfl, HB2.out⟩
end Go.Proofs.Ytmhjabodhgacnaa
