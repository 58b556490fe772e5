/- Contract: the reference's Value. -/
import Derived.Test.YtmhjabodhgacnaaPS
import Derived.Test.YtmhjabodhgacnaaPD
set_option maxRecDepth 100000
namespace Go.Proofs.Ytmhjabodhgacnaa
open Go.RowKit

theorem ext_bytes (s : ByteArray) (a b : Nat) : bytesOf (s.extract a b) = ((bytesOf s).take b).drop a := by
  unfold bytesOf
  have h : (s.extract a b).data = s.data.extract a b := ByteArray.data_extract
  rw [h, Array.toList_extract, List.map_take, List.map_drop, List.drop_take]
theorem ext_same {s : ByteArray} {r : List Nat} (hr : ∀ x ∈ r, x < 256) (b : Nat) : ((strOf r).toList == (s.extract 0 b).toList) = decide (r = (bytesOf s).take b) := by
  have h := same_text (l := r) (r := (bytesOf s).take b) hr (fun x hx => bytesOf_lt s x (List.mem_of_mem_take hx))
  rw [show s.extract 0 b = strOf ((bytesOf s).take b) from by rw [← strOf_of (s.extract 0 b), ext_bytes, List.drop_zero]]
  exact h
/-- What the reference's check tells. -/
theorem valB_check {l : List Nat} {k : Nat} (hb : ∀ x ∈ l, x < 256) (h : OnB l k) (hk : k < l.length) (hx : l[k] < 128) (hk9 : k ≤ 9) {y : Nat} (hy : y = (lowG l k + 128 ^ k * (l[k] % 128)) % 18446744073709551616) :
    valB l = if numB y = l.take (k + 1) then (y, k + 1) else (0, 0) := by
  by_cases he : numB y = l.take (k + 1)
  · rw [if_pos he]
    have h1 : l = numB y ++ l.drop (k + 1) := by rw [he, List.take_append_drop]
    have h2 := valB_num (n := y) (by omega) (l.drop (k + 1))
    rw [← h1] at h2
    rw [h2, he, List.length_take, Nat.min_eq_left (by omega)]
  · rw [if_neg he]
    by_cases hz : l[k] = 0 ∧ 0 < k
    · exact valB_zero_last h hk hz.1 hz.2
    · by_cases ho : k = 9 ∧ 2 ≤ l[k]
      · obtain ⟨rfl, h2⟩ := ho
        exact valB_wide h hk (by omega) (by omega)
      · have h3 := valB_last h hk hx hz hk9 ho
        exfalso
        apply he
        have h4 := valB_lt l
        have h5 := valB_yes hb (by rw [h3]; exact Nat.succ_ne_zero k)
        rw [h3] at h4 h5
        simp only [] at h4 h5
        have hyy : y = lowG l k + l[k] * 128 ^ k := by
          rw [hy, Nat.mod_eq_of_lt hx, Nat.mul_comm, Nat.mod_eq_of_lt h4]
        rw [hyy]
        have h6 := congrArg (List.take (k + 1)) h5.2
        rw [List.take_append_of_le_length (by omega), List.take_of_length_le (l := numB (lowG l k + l[k] * 128 ^ k)) (by omega)] at h6
        exact h6.symm
set_option linter.unusedSimpArgs false in
set_option maxHeartbeats 8000000 in
theorem rvalue_any (s : ByteArray) (l : List Nat) (hs : bytesOf s = l) (hl : l.length < 1000000) (w : World) :
    Calls Try.prog 12 #[.string s] w fun e w' => e = .returned (.tuple #[.int .u64 ((valB l).1 : Nat), .int .i64 ((valB l).2 : Nat)]) ∧ Hid (Below w.heap.size w w') := by
  have mixed : Try.prog.follows .mixedOrders = true := by kernel_rfl
  have hsz : l.length = s.size := by rw [← hs, bytesOf_len]
  have hl2 : s.size < 1000000 := by omega
  have HLB : Hid (∀ x ∈ l, x < 256) := Lib.hid (by rw [← hs]; exact bytesOf_lt s)
  have HGET : Hid (∀ k (h : k < s.size) (h' : k < l.length), l[k] = s[k].toNat) := Lib.hid (by subst hs; exact fun k h h' => bytesOf_get s k h h')
  have HEX : Hid (∀ (r : List Nat), (∀ x ∈ r, x < 256) → ∀ b, ((strOf r).toList == (s.extract 0 b).toList) = decide (r = l.take b)) := Lib.hid (by subst hs; exact fun r hr b => ext_same hr b)
  have HSZ := Lib.hid hsz
  clear hs hsz hl
  go_enter Try.func12, Try.ntmps12
  go_wp2_with fail
  go_loopw [4, 5, 6] (fun z t i wr => ∃ (k n q : Nat), i = .int .i64 k ∧ k ≤ s.size ∧ k ≤ 10 ∧ z = .int .u64 n ∧ t = .int .u64 q ∧ Hid (k ≤ 9 → n = lowG l k ∧ q = 128 ^ k) ∧ Hid (OnB l k) ∧ wr = w) (fun _ _ i _ => 10 - (intOf i).toNat)
  case atStart => exact ⟨0, 0, 1, rfl, Nat.zero_le _, Nat.zero_le _, rfl, rfl, Lib.hid (fun _ => ⟨rfl, rfl⟩), Lib.hid (fun _ _ h => by omega), rfl⟩
  case round =>
    obtain ⟨k, n, q, rfl, hk, hk10, rfl, rfl, HQ, HG, rfl⟩ := hrel
    by_cases hlt : k < s.size
    · have hd : decide ((k : Int) < s.size) = true := decide_eq_true (by omega)
      have hki : (k : Int) < s.size := by omega
      by_cases h10 : k < 10
      · have hd2 : decide ((k : Int) < 10) = true := decide_eq_true (by omega)
        have hkl : k < l.length := by rw [HSZ.out]; exact hlt
        obtain ⟨hn, hq⟩ := HQ.out (by omega)
        have hx256 := HLB.out l[k] (List.getElem_mem hkl)
        have hgx := HGET.out k hlt hkl
        have hlow := lowG_lt l k
        have hpow : 128 ^ k ≤ 9223372036854775808 := by
          have : (128 : Nat) ^ k ≤ 128 ^ 9 := Nat.pow_le_pow_right (by omega) (by omega)
          have e9 : (128 : Nat) ^ 9 = 9223372036854775808 := by decide
          omega
        obtain ⟨y, hy⟩ : ∃ y, (lowG l k + 128 ^ k * (l[k] % 128)) % 18446744073709551616 = y := ⟨_, rfl⟩
        have HNX := Lib.hid (fun h1 => HG.out.next hkl h1 hx256)
        have HLS := Lib.hid (lowG_succ hkl)
        have HCHK := Lib.hid (fun h1 => valB_check HLB.out HG.out hkl h1 (by omega) hy.symm)
        have HY9 : Hid (k + 1 ≤ 9 → y = lowG l (k + 1) ∧ q * 128 % 18446744073709551616 = 128 ^ (k + 1)) := Lib.hid (fun h9 => by
          have e9 : (128 : Nat) ^ 9 = 9223372036854775808 := by decide
          have h1 := lowG_lt l (k + 1)
          have h2 : (128 : Nat) ^ (k + 1) ≤ 128 ^ 9 := Nat.pow_le_pow_right (by omega) h9
          rw [lowG_succ hkl] at h1 ⊢
          rw [← hy, Nat.mul_comm (128 ^ k)]
          refine ⟨Nat.mod_eq_of_lt (by omega), ?_⟩
          rw [hq, ← Nat.pow_succ, Nat.mod_eq_of_lt (by omega)])
        have hyl : y < 18446744073709551616 := by omega
        have HYL := Lib.hid hyl
        obtain ⟨x, hx⟩ : ∃ x, s[k].toNat = x := ⟨_, rfl⟩
        rw [hgx, hx] at hy hx256 HNX HLS HCHK
        obtain ⟨p, hp⟩ : ∃ p, 128 ^ k * (x % 128) = p := ⟨_, rfl⟩
        have hpl : p < 18446744073709551616 * 128 := by
          rw [← hp]
          have := Nat.mul_le_mul_left (128 ^ k) (show x % 128 ≤ 127 by omega)
          omega
        have e1 : IntKind.u64.wrap ((q : Int) * ((x : Int) % 128)) = ((p % 18446744073709551616 : Nat) : Int) := by
          rw [IntKind.wrap_u64, ← hp, hq, Int.natCast_emod, Int.natCast_mul, Int.natCast_emod]; rfl
        have e2 : IntKind.u64.wrap ((n : Int) + ((p % 18446744073709551616 : Nat) : Int)) = (y : Int) := by
          rw [IntKind.wrap_u64, ← hy, hp, hn]; omega
        have e3 : IntKind.u64.wrap ((q : Int) * 128) = ((q * 128 % 18446744073709551616 : Nat) : Int) := by
          rw [IntKind.wrap_u64]; omega
        have hk1 : IntKind.i64.wrap ((k : Int) + 1) = (k : Int) + 1 := by rw [IntKind.wrap_i64]; omega
        have E1 := Lib.hid e1
        have E2 := Lib.hid e2
        have E3 := Lib.hid e3
        obtain ⟨pm, hpm⟩ : ∃ pm, p % 18446744073709551616 = pm := ⟨_, rfl⟩
        rw [hpm] at e1 e2
        obtain ⟨q2, hq2⟩ : ∃ q2, q * 128 % 18446744073709551616 = q2 := ⟨_, rfl⟩
        rw [hq2] at e3 HY9
        clear hy hpl hp hpm hq2 hlow hpow hn hq hgx hkl HG HQ E1 E2 E3 HGET hyl
        by_cases h128 : x < 128
        · have d1 : decide ((x : Int) < 128) = true := decide_eq_true (by omega)
          have HV := Lib.hid (HCHK.out h128)
          have HNM := Lib.hid (fun W => rnumber_any y HYL.out W)
          have HEQ := Lib.hid (HEX.out (numB y) (numB_bytes y) (k + 1))
          clear HCHK HNX HY9 HLS HEX
          by_cases he : numB y = l.take (k + 1)
          · rw [if_pos he] at HV
            rw [decide_eq_true he] at HEQ
            have HQ0 := HEQ
            clear he
            go_upto_region 9 with fail
            refine region_goes 7 7 rfl (fun W => Below wr.heap.size wr W) mixed (Below.refl _ _).drew (fun hHeld => ?_)
            refine goes_take0 (i := 0) (v := ?gwvtrue1) rfl (by kernel_rfl) (by kernel_rfl) (by kernel_rfl) rfl (fun _ _ _ h => h) (Or.inl ⟨by rfl, ?gxvtrue1⟩) (by assumption) ?gqvtrue1
            case gxvtrue1 => (intro W9 _; first | (go_simp; done) | (go_simp; with_reducible rfl))
            simp only [Act.put, List.getElem_toArray, List.getElem_cons_succ, List.getElem_cons_zero, List.setIfInBounds_toArray, List.set_cons_zero, List.set_cons_succ]
            refine goes_take0 (i := 2) (v := ?gwvtrue2) rfl (by kernel_rfl) (by kernel_rfl) (by kernel_rfl) rfl (fun _ _ _ h => h) (Or.inl ⟨by rfl, ?gxvtrue2⟩) (by assumption) ?gqvtrue2
            case gxvtrue2 => (intro W9 _; first | (go_simp; done) | (go_simp; with_reducible rfl))
            simp only [Act.put, List.getElem_toArray, List.getElem_cons_succ, List.getElem_cons_zero, List.setIfInBounds_toArray, List.set_cons_zero, List.set_cons_succ]
            refine goes_take0 (i := 3) (v := ?gwvtrue3) rfl (by kernel_rfl) (by kernel_rfl) (by kernel_rfl) rfl (fun _ _ _ h => h) (Or.inl ⟨by rfl, ?gxvtrue3⟩) (by assumption) ?gqvtrue3
            case gxvtrue3 => (intro W9 _; first | (go_simp; done) | (go_simp; with_reducible rfl))
            simp only [Act.put, List.getElem_toArray, List.getElem_cons_succ, List.getElem_cons_zero, List.setIfInBounds_toArray, List.set_cons_zero, List.set_cons_succ]
            refine goes_take0 (i := 4) (v := .int .i64 ((k : Int) + 1)) rfl (by kernel_rfl) (by kernel_rfl) (by kernel_rfl) rfl (fun _ _ _ h => h) (Or.inl ⟨by rfl, ?gxvtrue4⟩) (by assumption) ?gqvtrue4
            case gxvtrue4 => (intro W9 _; have e9 := hk1; first | (go_simp; done) | (go_simp; with_reducible rfl))
            simp only [Act.put, List.getElem_toArray, List.getElem_cons_succ, List.getElem_cons_zero, List.setIfInBounds_toArray, List.set_cons_zero, List.set_cons_succ]
            refine goes_take0 (i := 5) (v := .string (s.extract 0 (k + 1))) rfl (by kernel_rfl) (by kernel_rfl) (by kernel_rfl) rfl (fun _ _ _ h => h) (Or.inl ⟨by rfl, ?gxvtrue5⟩) (by assumption) ?gqvtrue5
            case gxvtrue5 => (intro W9 _; have e9 : (k : Int) + 1 ≤ s.size := (by omega); have e8 : (0 : Int) ≤ (k : Int) + 1 := (by omega); have e7 : ((k : Int) + 1).toNat = k + 1 := (by omega); first | (go_simp; done) | (go_simp; with_reducible rfl))
            simp only [Act.put, List.getElem_toArray, List.getElem_cons_succ, List.getElem_cons_zero, List.setIfInBounds_toArray, List.set_cons_zero, List.set_cons_succ]
            refine goes_one (i := 1) (by kernel_rfl) rfl (fun K9 hK9 => ?_)
            go_simp
            with_reducible refine (HNM.out _).mono ?_
            rintro e w5 ⟨rfl, hb5⟩
            have hAnw5 := hHeld.trans ((hb5.out).mono hHeld.size)
            refine hK9.out _ _ (fun _ => hAnw5) (fun _ => ?_)
            clear hK9 K9 hHeld
            refine Goes.more (S2 := fun W => Below w5.heap.size w5 W) (fun W h => hAnw5.trans (h.mono hAnw5.size)) ?_
            have hHeld := Below.refl w5.heap.size w5
            refine goes_take0 (i := 6) (v := .bool true) rfl (by kernel_rfl) (by kernel_rfl) (by kernel_rfl) rfl (fun _ _ _ h => h) (Or.inl ⟨by rfl, ?gxvtrue6⟩) (by assumption) ?gqvtrue6
            case gxvtrue6 => (intro W9 _; have e9 := HEQ.out; first | (go_simp; done) | (go_simp; with_reducible rfl))
            simp only [Act.put, List.getElem_toArray, List.getElem_cons_succ, List.getElem_cons_zero, List.setIfInBounds_toArray, List.set_cons_zero, List.set_cons_succ]
            refine goes_done (by kernel_rfl) ?_ _
            go_wp2_with fail
            go_ret2
            exact ⟨by rw [HV.out]; rfl, Lib.hid hAnw5⟩
          · rw [if_neg he] at HV
            rw [decide_eq_false he] at HEQ
            clear he
            go_upto_region 9 with fail
            refine region_goes 7 7 rfl (fun W => Below wr.heap.size wr W) mixed (Below.refl _ _).drew (fun hHeld => ?_)
            refine goes_take0 (i := 0) (v := ?gwvfalse1) rfl (by kernel_rfl) (by kernel_rfl) (by kernel_rfl) rfl (fun _ _ _ h => h) (Or.inl ⟨by rfl, ?gxvfalse1⟩) (by assumption) ?gqvfalse1
            case gxvfalse1 => (intro W9 _; first | (go_simp; done) | (go_simp; with_reducible rfl))
            simp only [Act.put, List.getElem_toArray, List.getElem_cons_succ, List.getElem_cons_zero, List.setIfInBounds_toArray, List.set_cons_zero, List.set_cons_succ]
            refine goes_take0 (i := 2) (v := ?gwvfalse2) rfl (by kernel_rfl) (by kernel_rfl) (by kernel_rfl) rfl (fun _ _ _ h => h) (Or.inl ⟨by rfl, ?gxvfalse2⟩) (by assumption) ?gqvfalse2
            case gxvfalse2 => (intro W9 _; first | (go_simp; done) | (go_simp; with_reducible rfl))
            simp only [Act.put, List.getElem_toArray, List.getElem_cons_succ, List.getElem_cons_zero, List.setIfInBounds_toArray, List.set_cons_zero, List.set_cons_succ]
            refine goes_take0 (i := 3) (v := ?gwvfalse3) rfl (by kernel_rfl) (by kernel_rfl) (by kernel_rfl) rfl (fun _ _ _ h => h) (Or.inl ⟨by rfl, ?gxvfalse3⟩) (by assumption) ?gqvfalse3
            case gxvfalse3 => (intro W9 _; first | (go_simp; done) | (go_simp; with_reducible rfl))
            simp only [Act.put, List.getElem_toArray, List.getElem_cons_succ, List.getElem_cons_zero, List.setIfInBounds_toArray, List.set_cons_zero, List.set_cons_succ]
            refine goes_take0 (i := 4) (v := .int .i64 ((k : Int) + 1)) rfl (by kernel_rfl) (by kernel_rfl) (by kernel_rfl) rfl (fun _ _ _ h => h) (Or.inl ⟨by rfl, ?gxvfalse4⟩) (by assumption) ?gqvfalse4
            case gxvfalse4 => (intro W9 _; have e9 := hk1; first | (go_simp; done) | (go_simp; with_reducible rfl))
            simp only [Act.put, List.getElem_toArray, List.getElem_cons_succ, List.getElem_cons_zero, List.setIfInBounds_toArray, List.set_cons_zero, List.set_cons_succ]
            refine goes_take0 (i := 5) (v := .string (s.extract 0 (k + 1))) rfl (by kernel_rfl) (by kernel_rfl) (by kernel_rfl) rfl (fun _ _ _ h => h) (Or.inl ⟨by rfl, ?gxvfalse5⟩) (by assumption) ?gqvfalse5
            case gxvfalse5 => (intro W9 _; have e9 : (k : Int) + 1 ≤ s.size := (by omega); have e8 : (0 : Int) ≤ (k : Int) + 1 := (by omega); have e7 : ((k : Int) + 1).toNat = k + 1 := (by omega); first | (go_simp; done) | (go_simp; with_reducible rfl))
            simp only [Act.put, List.getElem_toArray, List.getElem_cons_succ, List.getElem_cons_zero, List.setIfInBounds_toArray, List.set_cons_zero, List.set_cons_succ]
            refine goes_one (i := 1) (by kernel_rfl) rfl (fun K9 hK9 => ?_)
            go_simp
            with_reducible refine (HNM.out _).mono ?_
            rintro e w5 ⟨rfl, hb5⟩
            have hAnw5 := hHeld.trans ((hb5.out).mono hHeld.size)
            refine hK9.out _ _ (fun _ => hAnw5) (fun _ => ?_)
            clear hK9 K9 hHeld
            refine Goes.more (S2 := fun W => Below w5.heap.size w5 W) (fun W h => hAnw5.trans (h.mono hAnw5.size)) ?_
            have hHeld := Below.refl w5.heap.size w5
            refine goes_take0 (i := 6) (v := .bool false) rfl (by kernel_rfl) (by kernel_rfl) (by kernel_rfl) rfl (fun _ _ _ h => h) (Or.inl ⟨by rfl, ?gxvfalse6⟩) (by assumption) ?gqvfalse6
            case gxvfalse6 => (intro W9 _; have e9 := HEQ.out; first | (go_simp; done) | (go_simp; with_reducible rfl))
            simp only [Act.put, List.getElem_toArray, List.getElem_cons_succ, List.getElem_cons_zero, List.setIfInBounds_toArray, List.set_cons_zero, List.set_cons_succ]
            refine goes_done (by kernel_rfl) ?_ _
            go_wp2_with fail
            go_ret2
            exact ⟨by rw [HV.out]; rfl, Lib.hid hAnw5⟩
        · have d1 : decide ((x : Int) < 128) = false := decide_eq_false (by omega)
          have d2 : decide (x < 128) = false := decide_eq_false h128
          have HOB := Lib.hid (HNX.out (by omega))
          clear HCHK HNX h128
          go_wp2_with fail
          exact ⟨⟨k + 1, y, q2, rfl, hlt, h10, rfl, rfl, HY9, HOB, trivial⟩, by simp only [intOf]; omega⟩
      · have hd2 : decide ((k : Int) < 10) = false := decide_eq_false (by omega)
        have HV := Lib.hid (valB_end HG.out (by rw [HSZ.out]; omega))
        go_wp2_with fail
        go_ret2
        exact ⟨by rw [HV.out]; rfl, Lib.hid (Below.refl _ _)⟩
    · have hd : decide ((k : Int) < s.size) = false := decide_eq_false (by omega)
      have hdn : decide (k < s.size) = false := decide_eq_false hlt
      have HV := Lib.hid (valB_end HG.out (by rw [HSZ.out]; omega))
      go_wp2_with fail
      go_ret2
      exact ⟨by rw [HV.out]; rfl, Lib.hid (Below.refl _ _)⟩
end Go.Proofs.Ytmhjabodhgacnaa
