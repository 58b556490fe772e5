/- Contract of the reference: skip. -/
import Derived.Test.YtplgnbedcjanhaaBe
set_option maxRecDepth 100000
namespace Go.Proofs.Ytplgnbedcjanhaa
open Go.RowKit

theorem ne_no {x : Nat} {c : Nat} (h : x = c) : ((x : Int) != (c : Int)) = false := by rw [bne, eq_yes h]; rfl
theorem ne_yes {x : Nat} {c : Nat} (h : ¬ x = c) : ((x : Int) != (c : Int)) = true := by rw [bne, eq_no h]; rfl
theorem nlN_cons {x : Nat} {t : List Nat} (h : ¬ x = 10) : nlN (x :: t) = nlN t + 1 := by rw [nlN, if_neg h]
theorem nlN_zero {x : Nat} {t : List Nat} (h : x = 10) : nlN (x :: t) = 0 := by rw [nlN, if_pos h]
theorem nlN_over {l : List Nat} {j : Nat} (h : l.length ≤ j) : nlN (l.drop j) = 0 := by rw [List.drop_eq_nil_of_le h]; rfl
set_option maxHeartbeats 8000000 in
theorem rskip_any (s : ByteArray) (l : List Nat) (hs : bytesOf s = l) (hsz : s.size < 1000000) (p : Nat) (hp : p ≤ s.size) (w : World) :
    Calls Try.prog 19 #[.string s, .int .i64 p] w fun e w' => e = .returned (.int .i64 (p + skN false (l.drop p) : Nat)) ∧ w' = w := by
  have HS := Lib.hid hs
  have hl : l.length = s.size := by rw [← hs, bytesOf_len]
  have HL := Lib.hid hl
  clear hs hl
  go_enter Try.func19, Try.ntmps19
  go_wp2
  go_loopw [1] (fun z wr => ∃ k : Nat, z = .int .i64 k ∧ k ≤ s.size ∧ Hid (p + skN false (l.drop p) = k + skN false (l.drop k)) ∧ wr = w) (fun z _ => s.size - (intOf z).toNat)
  case atStart => exact ⟨p, rfl, hp, Lib.hid rfl, rfl⟩
  case round =>
    obtain ⟨k, rfl, hk, HK, rfl⟩ := hrel
    by_cases hlt : k < s.size
    · have hd : decide ((k : Int) < s.size) = true := decide_eq_true (by omega)
      have hki : (k : Int) < s.size := by omega
      obtain ⟨hkl, hx⟩ := get_nat HS.out hlt
      have HDL : Hid (0 < (l.drop k).length) := Lib.hid (by rw [List.length_drop]; omega)
      have HD0 : Hid ((l.drop k)[0]'HDL.out = s[k].toNat) := Lib.hid (by rw [List.getElem_drop, ← hx]; rfl)
      clear hx
      by_cases hx32 : s[k].toNat = 32
      · have e32 : ((s[k].toNat : Int) == 32) = true := eq_yes (c := 32) hx32
        have HZ : Hid (skN false (l.drop k) = 1 + skN false (l.drop (k + 1))) := Lib.hid (by rw [skN_space HDL.out (by rw [HD0.out, hx32]; rfl), List.drop_drop])
        have HZ2 := Lib.hid (HK.out.trans (show k + skN false (l.drop k) = k + 1 + skN false (l.drop (k + 1)) by rw [HZ.out]; omega))
        clear HK HZ HD0 HDL hkl
        clear hx32
        go_wp2
        exact ⟨⟨k + 1, rfl, hlt, HZ2, trivial⟩, by simp only [intOf]; omega⟩
      by_cases hx9 : s[k].toNat = 9
      · have e32 : ((s[k].toNat : Int) == 32) = false := eq_no (c := 32) hx32
        have e9 : ((s[k].toNat : Int) == 9) = true := eq_yes (c := 9) hx9
        have HZ : Hid (skN false (l.drop k) = 1 + skN false (l.drop (k + 1))) := Lib.hid (by rw [skN_space HDL.out (by rw [HD0.out, hx9]; rfl), List.drop_drop])
        have HZ2 := Lib.hid (HK.out.trans (show k + skN false (l.drop k) = k + 1 + skN false (l.drop (k + 1)) by rw [HZ.out]; omega))
        clear HK HZ HD0 HDL hkl
        clear hx32 hx9
        go_wp2
        exact ⟨⟨k + 1, rfl, hlt, HZ2, trivial⟩, by simp only [intOf]; omega⟩
      by_cases hx10 : s[k].toNat = 10
      · have e32 : ((s[k].toNat : Int) == 32) = false := eq_no (c := 32) hx32
        have e9 : ((s[k].toNat : Int) == 9) = false := eq_no (c := 9) hx9
        have e10 : ((s[k].toNat : Int) == 10) = true := eq_yes (c := 10) hx10
        have HZ : Hid (skN false (l.drop k) = 1 + skN false (l.drop (k + 1))) := Lib.hid (by rw [skN_space HDL.out (by rw [HD0.out, hx10]; rfl), List.drop_drop])
        have HZ2 := Lib.hid (HK.out.trans (show k + skN false (l.drop k) = k + 1 + skN false (l.drop (k + 1)) by rw [HZ.out]; omega))
        clear HK HZ HD0 HDL hkl
        clear hx32 hx9 hx10
        go_wp2
        exact ⟨⟨k + 1, rfl, hlt, HZ2, trivial⟩, by simp only [intOf]; omega⟩
      by_cases hx13 : s[k].toNat = 13
      · have e32 : ((s[k].toNat : Int) == 32) = false := eq_no (c := 32) hx32
        have e9 : ((s[k].toNat : Int) == 9) = false := eq_no (c := 9) hx9
        have e10 : ((s[k].toNat : Int) == 10) = false := eq_no (c := 10) hx10
        have e13 : ((s[k].toNat : Int) == 13) = true := eq_yes (c := 13) hx13
        have HZ : Hid (skN false (l.drop k) = 1 + skN false (l.drop (k + 1))) := Lib.hid (by rw [skN_space HDL.out (by rw [HD0.out, hx13]; rfl), List.drop_drop])
        have HZ2 := Lib.hid (HK.out.trans (show k + skN false (l.drop k) = k + 1 + skN false (l.drop (k + 1)) by rw [HZ.out]; omega))
        clear HK HZ HD0 HDL hkl
        clear hx32 hx9 hx10 hx13
        go_wp2
        exact ⟨⟨k + 1, rfl, hlt, HZ2, trivial⟩, by simp only [intOf]; omega⟩
      have e32 : ((s[k].toNat : Int) == 32) = false := eq_no (c := 32) hx32
      have e9 : ((s[k].toNat : Int) == 9) = false := eq_no (c := 9) hx9
      have e10 : ((s[k].toNat : Int) == 10) = false := eq_no (c := 10) hx10
      have e13 : ((s[k].toNat : Int) == 13) = false := eq_no (c := 13) hx13
      have hsp : isSp s[k].toNat = false := by unfold isSp; simp [hx32, hx9, hx13, hx10]
      by_cases hx35 : s[k].toNat = 35
      · have e35 : ((s[k].toNat : Int) == 35) = true := eq_yes (c := 35) hx35
        have h35 : (l.drop k)[0]'HDL.out = 35 := by rw [HD0.out, hx35]
        have hn1 := nlN_pos HDL.out h35
        have hn2 : nlN (l.drop k) ≤ s.size - k := by have := nlN_le (l.drop k); rw [List.length_drop, HL.out] at this; exact this
        have HZ2 := Lib.hid (HK.out.trans (show k + skN false (l.drop k) = k + nlN (l.drop k) + skN false (l.drop (k + nlN (l.drop k))) by rw [skN_hash HDL.out h35, List.drop_drop]; omega))
        obtain ⟨n, hn⟩ : ∃ n, nlN (l.drop k) = n := ⟨_, rfl⟩
        rw [hn] at HZ2 hn1 hn2
        have HN := Lib.hid hn
        clear HK HD0 HDL hkl hx32 hx9 hx13 hx10 hx35 hsp h35 hn
        go_wp2
        go_loopw [1] (fun z wi => ∃ j : Nat, z = .int .i64 j ∧ j ≤ s.size ∧ Hid (k + n = j + nlN (l.drop j)) ∧ wi = wr) (fun z _ => s.size - (intOf z).toNat)
        case atStart => exact ⟨k, rfl, hk, Lib.hid (by rw [HN.out]), rfl⟩
        case round =>
          obtain ⟨j, rfl, hj, HJ, rfl⟩ := hrel
          by_cases hl2 : j < s.size
          · have hd2 : decide ((j : Int) < s.size) = true := decide_eq_true (by omega)
            have hji : (j : Int) < s.size := by omega
            obtain ⟨hjl, hy⟩ := get_nat HS.out hl2
            have HC : Hid (l.drop j = s[j].toNat :: l.drop (j + 1)) := Lib.hid (by rw [List.drop_eq_getElem_cons hjl, hy])
            rw [HC.out] at HJ
            clear hy hjl HC
            by_cases hy10 : s[j].toNat = 10
            · have f10 : ((s[j].toNat : Int) != 10) = false := ne_no (c := 10) hy10
              have HE := HJ.out
              rw [nlN_zero hy10] at HE
              clear HJ hy10
              obtain rfl : j = k + n := by omega
              clear HE
              go_wp2
              exact ⟨⟨k + n, rfl, hj, HZ2, trivial⟩, by simp only [intOf]; omega⟩
            · have f10 : ((s[j].toNat : Int) != 10) = true := ne_yes (c := 10) hy10
              have HE := HJ.out
              rw [nlN_cons hy10] at HE
              have HE2 := Lib.hid (show k + n = j + 1 + nlN (l.drop (j + 1)) by omega)
              clear HJ hy10 HE
              go_wp2
              exact ⟨⟨j + 1, rfl, hl2, HE2, trivial⟩, by simp only [intOf]; omega⟩
          · have hd2 : decide ((j : Int) < s.size) = false := decide_eq_false (by omega)
            have HE := HJ.out
            rw [nlN_over (by rw [HL.out]; omega)] at HE
            clear HJ
            obtain rfl : j = k + n := by omega
            clear HE
            go_wp2
            exact ⟨⟨k + n, rfl, hj, HZ2, trivial⟩, by simp only [intOf]; omega⟩
      · have e35 : ((s[k].toNat : Int) == 35) = false := eq_no (c := 35) hx35
        have HZ := Lib.hid (HK.out.trans (show k + skN false (l.drop k) = k by rw [skN_none HDL.out (by rw [HD0.out]; exact hsp) (by rw [HD0.out]; exact hx35)]; rfl))
        clear HK HD0 HDL hkl hx32 hx9 hx13 hx10 hx35 hsp
        go_wp2
        go_ret
        exact ⟨by rw [HZ.out]; rfl, rfl⟩
    · have hd : decide ((k : Int) < s.size) = false := decide_eq_false (by omega)
      obtain rfl : k = s.size := by omega
      have HZ := Lib.hid (HK.out.trans (show s.size + skN false (l.drop s.size) = s.size by rw [List.drop_eq_nil_of_le (by rw [HL.out]; exact Nat.le_refl _), skN_nil]; rfl))
      clear HK
      go_wp2
      go_ret
      exact ⟨by rw [HZ.out]; rfl, rfl⟩
end Go.Proofs.Ytplgnbedcjanhaa
