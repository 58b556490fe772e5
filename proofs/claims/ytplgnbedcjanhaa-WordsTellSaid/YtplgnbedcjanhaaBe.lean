/- Contracts: slash, comment, skip, inside. -/
import Derived.Test.YtplgnbedcjanhaaBc
import Derived.WalkMore
set_option maxRecDepth 100000
namespace Go.Proofs.Ytplgnbedcjanhaa
open Go.RowKit

theorem slN_nl {e : Bool} {k x : Nat} {t : List Nat} (h : x = 10 ∨ x = 13) : slN e k (x :: t) = 0 := by rw [slN, if_pos h]
theorem slN_esc {k x : Nat} {t : List Nat} (h : ¬ x = 10) (h2 : ¬ x = 13) : slN true k (x :: t) = slN false (k + 1) t := by rw [slN, if_neg (by omega), if_pos rfl]
theorem slN_back {k x : Nat} {t : List Nat} (h : x = 92) : slN false k (x :: t) = slN true (k + 1) t := by rw [slN, if_neg (by omega), if_neg (by decide), if_pos h]
theorem slN_end {k x : Nat} {t : List Nat} (h : x = 47) : slN false k (x :: t) = k + 1 := by rw [slN, if_neg (by omega), if_neg (by decide), if_neg (by omega), if_pos h]
theorem slN_go {k x : Nat} {t : List Nat} (h : ¬ x = 10) (h2 : ¬ x = 13) (h3 : ¬ x = 92) (h4 : ¬ x = 47) : slN false k (x :: t) = slN false (k + 1) t := by rw [slN, if_neg (by omega), if_neg (by decide), if_neg h3, if_neg h4]
theorem slN_over {e : Bool} {k : Nat} {l : List Nat} {j : Nat} (h : l.length ≤ j) : slN e k (l.drop j) = 0 := by rw [List.drop_eq_nil_of_le h, slN]
set_option maxHeartbeats 4000000 in
theorem slash_any (s : ByteArray) (l : List Nat) (hs : bytesOf s = l) (hsz : s.size < 1000000) (w : World) :
    Calls Try.prog 47 #[.string s] w fun e w' => e = .returned (.int .i64 (slN false 1 (l.drop 1) : Nat)) ∧ w' = w := by
  have HS := Lib.hid hs
  have hl : l.length = s.size := by rw [← hs, bytesOf_len]
  have HL := Lib.hid hl
  clear hs hl
  go_enter Try.func47, Try.ntmps47
  go_wp2
  go_step3
  go_wp2
  go_step3
  go_wp2
  go_loopw [3, 4] (fun e z wr => ∃ (v : Bool) (k : Nat), e = .bool v ∧ z = .int .i64 k ∧ k ≤ s.size + 1 ∧ Hid (slN false 1 (l.drop 1) = slN v k (l.drop k)) ∧ wr = w) (fun _ z _ => s.size + 1 - (intOf z).toNat)
  case atStart => exact ⟨false, 1, rfl, rfl, by omega, Lib.hid rfl, rfl⟩
  case round =>
    obtain ⟨v, k, rfl, rfl, hk, HK, rfl⟩ := hrel
    by_cases hlt : k < s.size
    · have hd : decide ((k : Int) < s.size) = true := decide_eq_true (by omega)
      have hki : (k : Int) < s.size := by omega
      obtain ⟨hkl, hx⟩ := get_nat HS.out hlt
      have HC : Hid (l.drop k = s[k].toNat :: l.drop (k + 1)) := Lib.hid (by rw [List.drop_eq_getElem_cons hkl, hx])
      rw [HC.out] at HK
      clear hx hkl HC
      by_cases hx10 : s[k].toNat = 10
      · have e10 : ((s[k].toNat : Int) == 10) = true := eq_yes (c := 10) hx10
        have HZ := Lib.hid (HK.out.trans (slN_nl (.inl hx10)))
        clear HK hx10
        go_wp2
        rw [Exit.noGoto_ret]
        go_ret
        exact ⟨by rw [HZ.out]; rfl, rfl⟩
      by_cases hx13 : s[k].toNat = 13
      · have e10 : ((s[k].toNat : Int) == 10) = false := eq_no (c := 10) (by omega)
        have e13 : ((s[k].toNat : Int) == 13) = true := eq_yes (c := 13) hx13
        have HZ := Lib.hid (HK.out.trans (slN_nl (.inr hx13)))
        clear HK hx13 hx10
        go_wp2
        rw [Exit.noGoto_ret]
        go_ret
        exact ⟨by rw [HZ.out]; rfl, rfl⟩
      have e10 : ((s[k].toNat : Int) == 10) = false := eq_no (c := 10) hx10
      have e13 : ((s[k].toNat : Int) == 13) = false := eq_no (c := 13) hx13
      cases v
      · by_cases hx92 : s[k].toNat = 92
        · have e92 : ((s[k].toNat : Int) == 92) = true := eq_yes (c := 92) hx92
          have HZ := Lib.hid (HK.out.trans (slN_back hx92))
          clear HK hx92 hx13 hx10
          go_wp2
          exact ⟨⟨true, k + 1, rfl, rfl, by omega, HZ, trivial⟩, by simp only [intOf]; omega⟩
        have e92 : ((s[k].toNat : Int) == 92) = false := eq_no (c := 92) hx92
        by_cases hx47 : s[k].toNat = 47
        · have e47 : ((s[k].toNat : Int) == 47) = true := eq_yes (c := 47) hx47
          have HZ := Lib.hid (HK.out.trans (slN_end hx47))
          clear HK hx92 hx13 hx10 hx47
          go_wp2
          rw [Exit.noGoto_ret]
          go_ret
          exact ⟨by rw [HZ.out]; rfl, rfl⟩
        · have e47 : ((s[k].toNat : Int) == 47) = false := eq_no (c := 47) hx47
          have HZ := Lib.hid (HK.out.trans (slN_go hx10 hx13 hx92 hx47))
          clear HK hx92 hx13 hx10 hx47
          go_wp2
          exact ⟨⟨false, k + 1, rfl, rfl, by omega, HZ, trivial⟩, by simp only [intOf]; omega⟩
      · have HZ := Lib.hid (HK.out.trans (slN_esc hx10 hx13))
        clear HK hx13 hx10
        go_wp2
        exact ⟨⟨false, k + 1, rfl, rfl, by omega, HZ, trivial⟩, by simp only [intOf]; omega⟩
    · have hd : decide ((k : Int) < s.size) = false := decide_eq_false (by omega)
      have HZ := Lib.hid (HK.out.trans (slN_over (by rw [HL.out]; omega)))
      clear HK
      go_wp2
      rw [Exit.noGoto_ret]
      go_ret
      exact ⟨by rw [HZ.out]; rfl, rfl⟩
set_option maxHeartbeats 2000000 in
theorem comment_any (s : ByteArray) (l : List Nat) (hs : bytesOf s = l) (w : World) :
    Calls Try.prog 40 #[.string s] w fun e w' => e = .returned (.int .i64 (nlN l : Nat)) ∧ w' = w := by
  have HI := Lib.hid (fun W => indexByte_any s 10 W)
  have e10 : ((10 : Int).toNat).toUInt8 = 10 := rfl
  rw [e10, index_nl_of, hs] at HI
  clear e10
  have hl : l.length = s.size := by rw [← hs, bytesOf_len]
  have hle := nlN_le l
  clear hs
  by_cases h : nlN l < s.size
  · rw [if_pos h] at HI
    generalize nlN l = n at *
    have h1 : decide ((n : Int) ≥ 0) = true := decide_eq_true (by omega)
    have h2 : decide ((0 : Int) ≤ n) = true := decide_eq_true (by omega)
    go_enter Try.func40, Try.ntmps40
    go_wp2_with (go_at_call 48; (with_reducible refine (HI.out _).mono ?_); rintro e w5 ⟨rfl, e5⟩; subst w5)
    go_ret
    exact ⟨rfl, rfl⟩
  · rw [if_neg h] at HI
    have HN : Hid (nlN l = s.size) := Lib.hid (by omega)
    clear h hle hl
    generalize nlN l = n at *
    go_enter Try.func40, Try.ntmps40
    go_wp2_with (go_at_call 48; (with_reducible refine (HI.out _).mono ?_); rintro e w5 ⟨rfl, e5⟩; subst w5)
    go_ret
    exact ⟨by rw [HN.out]; rfl, rfl⟩
set_option maxHeartbeats 4000000 in
theorem skip_any (s : ByteArray) (l : List Nat) (hs : bytesOf s = l) (hsz : s.size < 1000000) (p : Nat) (hp : p ≤ s.size) (w : World) :
    Calls Try.prog 31 #[.string s, .int .i64 p] w fun e w' => e = .returned (.int .i64 (p + skN false (l.drop p) : Nat)) ∧ w' = w := by
  have HS := Lib.hid hs
  have hl : l.length = s.size := by rw [← hs, bytesOf_len]
  have HL := Lib.hid hl
  have HC := Lib.hid (fun k W => comment_any (s.extract k s.size) (l.drop k) (by rw [ext_rest, hs]) W)
  clear hs hl
  go_enter Try.func31, Try.ntmps31
  go_wp2
  go_loopw [1] (fun z wr => ∃ k : Nat, z = .int .i64 k ∧ k ≤ s.size ∧ Hid (p + skN false (l.drop p) = k + skN false (l.drop k)) ∧ wr = w) (fun z _ => s.size - (intOf z).toNat)
  case atStart => exact ⟨p, rfl, hp, Lib.hid rfl, rfl⟩
  case round =>
    obtain ⟨k, rfl, hk, HK, rfl⟩ := hrel
    by_cases hlt : k < s.size
    · have hd : decide ((k : Int) < s.size) = true := decide_eq_true (by omega)
      have hki : (k : Int) < s.size := by omega
      obtain ⟨hkl, hx⟩ := get_nat HS.out hlt
      have HDL : Hid (0 < (l.drop k).length) := Lib.hid (by rw [List.length_drop]; omega)
      have HD0 : Hid ((l.drop k)[0]'HDL.out = s[k].toNat) := Lib.hid (by rw [List.getElem_drop, ← hx]; rfl)
      clear hx
      by_cases hx32 : s[k].toNat = 32
      · have e32 : ((s[k].toNat : Int) == 32) = true := eq_yes (c := 32) hx32
        have HZ : Hid (skN false (l.drop k) = 1 + skN false (l.drop (k + 1))) := Lib.hid (by rw [skN_space HDL.out (by rw [HD0.out, hx32]; rfl), List.drop_drop])
        have HZ2 := Lib.hid (HK.out.trans (show k + skN false (l.drop k) = k + 1 + skN false (l.drop (k + 1)) by rw [HZ.out]; omega))
        clear HK HZ HD0 HDL hkl
        clear hx32
        go_wp2
        exact ⟨⟨k + 1, rfl, hlt, HZ2, trivial⟩, by simp only [intOf]; omega⟩
      by_cases hx9 : s[k].toNat = 9
      · have e32 : ((s[k].toNat : Int) == 32) = false := eq_no (c := 32) hx32
        have e9 : ((s[k].toNat : Int) == 9) = true := eq_yes (c := 9) hx9
        have HZ : Hid (skN false (l.drop k) = 1 + skN false (l.drop (k + 1))) := Lib.hid (by rw [skN_space HDL.out (by rw [HD0.out, hx9]; rfl), List.drop_drop])
        have HZ2 := Lib.hid (HK.out.trans (show k + skN false (l.drop k) = k + 1 + skN false (l.drop (k + 1)) by rw [HZ.out]; omega))
        clear HK HZ HD0 HDL hkl
        clear hx32 hx9
        go_wp2
        exact ⟨⟨k + 1, rfl, hlt, HZ2, trivial⟩, by simp only [intOf]; omega⟩
      by_cases hx13 : s[k].toNat = 13
      · have e32 : ((s[k].toNat : Int) == 32) = false := eq_no (c := 32) hx32
        have e9 : ((s[k].toNat : Int) == 9) = false := eq_no (c := 9) hx9
        have e13 : ((s[k].toNat : Int) == 13) = true := eq_yes (c := 13) hx13
        have HZ : Hid (skN false (l.drop k) = 1 + skN false (l.drop (k + 1))) := Lib.hid (by rw [skN_space HDL.out (by rw [HD0.out, hx13]; rfl), List.drop_drop])
        have HZ2 := Lib.hid (HK.out.trans (show k + skN false (l.drop k) = k + 1 + skN false (l.drop (k + 1)) by rw [HZ.out]; omega))
        clear HK HZ HD0 HDL hkl
        clear hx32 hx9 hx13
        go_wp2
        exact ⟨⟨k + 1, rfl, hlt, HZ2, trivial⟩, by simp only [intOf]; omega⟩
      by_cases hx10 : s[k].toNat = 10
      · have e32 : ((s[k].toNat : Int) == 32) = false := eq_no (c := 32) hx32
        have e9 : ((s[k].toNat : Int) == 9) = false := eq_no (c := 9) hx9
        have e13 : ((s[k].toNat : Int) == 13) = false := eq_no (c := 13) hx13
        have e10 : ((s[k].toNat : Int) == 10) = true := eq_yes (c := 10) hx10
        have HZ : Hid (skN false (l.drop k) = 1 + skN false (l.drop (k + 1))) := Lib.hid (by rw [skN_space HDL.out (by rw [HD0.out, hx10]; rfl), List.drop_drop])
        have HZ2 := Lib.hid (HK.out.trans (show k + skN false (l.drop k) = k + 1 + skN false (l.drop (k + 1)) by rw [HZ.out]; omega))
        clear HK HZ HD0 HDL hkl
        clear hx32 hx9 hx13 hx10
        go_wp2
        exact ⟨⟨k + 1, rfl, hlt, HZ2, trivial⟩, by simp only [intOf]; omega⟩
      have e32 : ((s[k].toNat : Int) == 32) = false := eq_no (c := 32) hx32
      have e9 : ((s[k].toNat : Int) == 9) = false := eq_no (c := 9) hx9
      have e13 : ((s[k].toNat : Int) == 13) = false := eq_no (c := 13) hx13
      have e10 : ((s[k].toNat : Int) == 10) = false := eq_no (c := 10) hx10
      have hsp : isSp s[k].toNat = false := by unfold isSp; simp [hx32, hx9, hx13, hx10]
      by_cases hx35 : s[k].toNat = 35
      · have e35 : ((s[k].toNat : Int) == 35) = true := eq_yes (c := 35) hx35
        have h35 : (l.drop k)[0]'HDL.out = 35 := by rw [HD0.out, hx35]
        have hn1 := nlN_pos HDL.out h35
        have hn2 : nlN (l.drop k) ≤ s.size - k := by have := nlN_le (l.drop k); rw [List.length_drop, HL.out] at this; exact this
        have HZ2 := Lib.hid (HK.out.trans (show k + skN false (l.drop k) = k + nlN (l.drop k) + skN false (l.drop (k + nlN (l.drop k))) by rw [skN_hash HDL.out h35, List.drop_drop]; omega))
        have HCC := Lib.hid (HC.out k)
        generalize nlN (l.drop k) = n at *
        clear HK HD0 HDL hkl hx32 hx9 hx13 hx10 hx35 hsp h35 HC
        go_wp2_with (go_at_call 40; (with_reducible refine (HCC.out _).mono ?_); rintro e w5 ⟨rfl, e5⟩; subst w5)
        exact ⟨⟨k + n, by first | rfl | simp, by omega, HZ2, trivial⟩, by simp only [intOf]; omega⟩
      · have e35 : ((s[k].toNat : Int) == 35) = false := eq_no (c := 35) hx35
        have HZ := Lib.hid (HK.out.trans (show k + skN false (l.drop k) = k by rw [skN_none HDL.out (by rw [HD0.out]; exact hsp) (by rw [HD0.out]; exact hx35)]; rfl))
        clear HK HD0 HDL hkl hx32 hx9 hx13 hx10 hx35 hsp
        go_wp2
        go_ret
        exact ⟨by rw [HZ.out]; rfl, rfl⟩
    · have hd : decide ((k : Int) < s.size) = false := decide_eq_false (by omega)
      obtain rfl : k = s.size := by omega
      have HZ := Lib.hid (HK.out.trans (show s.size + skN false (l.drop s.size) = s.size by rw [List.drop_eq_nil_of_le (by rw [HL.out]; exact Nat.le_refl _), skN_nil]; rfl))
      clear HK
      go_wp2
      go_ret
      exact ⟨by rw [HZ.out]; rfl, rfl⟩
set_option maxHeartbeats 2000000 in
theorem inside_any (kind : Nat) (s : ByteArray) (l : List Nat) (hs : bytesOf s = l) (hsz : s.size < 1000000) (hk : kind = 2 → 2 ≤ s.size) (w : World) :
    Calls Try.prog 32 #[.int .i64 kind, .string s] w fun e w' => e = .returned (.string (strOf (insT kind l))) ∧ Hid (Below w.heap.size w w') := by
  have hl : l.length = s.size := by rw [← hs, bytesOf_len]
  by_cases h2 : kind = 2
  · subst h2
    have h3 := hk rfl
    have hI : s.extract 1 (s.size - 1) = strOf (insT 2 l) := by rw [ext_str, hs, insT, if_pos rfl, hl]
    have hsz2 : (s.extract 1 (s.size - 1)).size ≤ 281474976710656 := by rw [hI, strOf_size, insT, if_pos rfl]; simp; omega
    have HI := Lib.hid hI
    have HC := Lib.hid (fun W => clone_any (s.extract 1 (s.size - 1)) W hsz2)
    have hw : IntKind.i64.wrap ((s.size : Int) - 1) = ((s.size - 1 : Nat) : Int) := by rw [IntKind.wrap_i64]; omega
    have hw2 : (s.size : Int) - 1 = ((s.size - 1 : Nat) : Int) := by omega
    have h4 : s.size - 1 ≤ s.size := by omega
    have h5 : 1 ≤ s.size - 1 := by omega
    clear hs hl hI hsz2 hk
    go_enter Try.func32, Try.ntmps32
    go_wp2_with (go_at_call 41; (with_reducible refine (HC.out _).mono ?_); rintro e w5 ⟨rfl, hb⟩)
    go_ret
    exact ⟨by rw [HI.out]; rfl, Lib.hid hb⟩
  · have hI : s = strOf (insT kind l) := by rw [insT, if_neg h2, ← hs, strOf_of]
    have HI := Lib.hid hI
    have e2 : ((kind : Int) == 2) = false := eq_no (c := 2) h2
    have HC := Lib.hid (fun W => clone_any s W (by omega))
    clear hs hl hI hk h2
    go_enter Try.func32, Try.ntmps32
    go_wp2_with (go_at_call 41; (with_reducible refine (HC.out _).mono ?_); rintro e w5 ⟨rfl, hb⟩)
    go_ret
    exact ⟨by rw [← HI.out]; rfl, Lib.hid hb⟩
end Go.Proofs.Ytplgnbedcjanhaa
