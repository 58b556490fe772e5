/- Contract of the reference: slash. -/
import Derived.Test.YtplgnbedcjanhaaBj
set_option maxRecDepth 100000
namespace Go.Proofs.Ytplgnbedcjanhaa
open Go.RowKit

set_option maxHeartbeats 4000000 in
theorem rslash_any (s : ByteArray) (l : List Nat) (hs : bytesOf s = l) (hsz : s.size < 1000000) (p : Nat) (hp : p ≤ s.size) (w : World) :
    Calls Try.prog 23 #[.string s, .int .i64 p] w fun e w' => e = .returned (.int .i64 ((slN false p (l.drop p) : Nat) - 1)) ∧ w' = w := by
  have HS := Lib.hid hs
  have hl : l.length = s.size := by rw [← hs, bytesOf_len]
  have HL := Lib.hid hl
  clear hs hl
  go_enter Try.func23, Try.ntmps23
  go_wp2
  go_loopw [1] (fun z wr => ∃ k : Nat, z = .int .i64 k ∧ k ≤ s.size + 1 ∧ Hid (slN false p (l.drop p) = slN false k (l.drop k)) ∧ wr = w) (fun z _ => s.size + 2 - (intOf z).toNat)
  case atStart => exact ⟨p, rfl, by omega, Lib.hid rfl, rfl⟩
  case round =>
    obtain ⟨k, rfl, hk, HK, rfl⟩ := hrel
    by_cases hlt : k < s.size
    · have hd : decide ((k : Int) < s.size) = true := decide_eq_true (by omega)
      have hki : (k : Int) < s.size := by omega
      obtain ⟨hkl, hx⟩ := get_nat HS.out hlt
      have HC : Hid (l.drop k = s[k].toNat :: l.drop (k + 1)) := Lib.hid (by rw [List.drop_eq_getElem_cons hkl, hx])
      rw [HC.out] at HK
      clear hx hkl HC
      by_cases hx10 : s[k].toNat = 10
      · have e10 : ((s[k].toNat : Int) != 10) = false := ne_no (c := 10) hx10
        have HZ := Lib.hid (HK.out.trans (slN_nl (.inl hx10)))
        clear HK hx10
        go_wp2
        go_ret
        exact ⟨by rw [HZ.out]; rfl, rfl⟩
      have e10 : ((s[k].toNat : Int) != 10) = true := ne_yes (c := 10) hx10
      by_cases hx13 : s[k].toNat = 13
      · have e13 : ((s[k].toNat : Int) != 13) = false := ne_no (c := 13) hx13
        have HZ := Lib.hid (HK.out.trans (slN_nl (.inr hx13)))
        clear HK hx13 hx10
        go_wp2
        go_ret
        exact ⟨by rw [HZ.out]; rfl, rfl⟩
      have e13 : ((s[k].toNat : Int) != 13) = true := ne_yes (c := 13) hx13
      by_cases hx47 : s[k].toNat = 47
      · have e47 : ((s[k].toNat : Int) == 47) = true := eq_yes (c := 47) hx47
        have HZ := Lib.hid (HK.out.trans (slN_end hx47))
        clear HK hx13 hx10 hx47
        go_wp2
        go_ret
        exact ⟨by rw [HZ.out]; simp, rfl⟩
      have e47 : ((s[k].toNat : Int) == 47) = false := eq_no (c := 47) hx47
      by_cases hx92 : s[k].toNat = 92
      · have e92 : ((s[k].toNat : Int) == 92) = true := eq_yes (c := 92) hx92
        have HZ := Lib.hid (HK.out.trans (slN_back hx92))
        clear HK hx92 hx13 hx10 hx47
        by_cases hl2 : k + 1 < s.size
        · have hd2 : decide (((k + 1 : Nat) : Int) < s.size) = true := decide_eq_true (by omega)
          have hd3 : decide ((k : Int) + 1 < s.size) = true := decide_eq_true (by omega)
          obtain ⟨hkl2, hx2⟩ := get_nat HS.out hl2
          have HC : Hid (l.drop (k + 1) = s[k + 1].toNat :: l.drop (k + 1 + 1)) := Lib.hid (by rw [List.drop_eq_getElem_cons hkl2, hx2])
          rw [HC.out] at HZ
          clear hx2 hkl2 HC
          by_cases hy10 : s[k + 1].toNat = 10
          · have f10 : ((s[k + 1].toNat : Int) == 10) = true := eq_yes (c := 10) hy10
            have HZ2 := Lib.hid (HZ.out.trans (slN_nl (.inl hy10)))
            clear HZ hy10
            go_wp2
            go_ret
            exact ⟨by rw [HZ2.out]; rfl, rfl⟩
          have f10 : ((s[k + 1].toNat : Int) == 10) = false := eq_no (c := 10) hy10
          by_cases hy13 : s[k + 1].toNat = 13
          · have f13 : ((s[k + 1].toNat : Int) == 13) = true := eq_yes (c := 13) hy13
            have HZ2 := Lib.hid (HZ.out.trans (slN_nl (.inr hy13)))
            clear HZ hy10 hy13
            go_wp2
            go_ret
            exact ⟨by rw [HZ2.out]; rfl, rfl⟩
          have f13 : ((s[k + 1].toNat : Int) == 13) = false := eq_no (c := 13) hy13
          have HZ2 := Lib.hid (HZ.out.trans (slN_esc hy10 hy13))
          clear HZ hy10 hy13
          go_wp2
          exact ⟨⟨k + 1 + 1, by simp, by omega, HZ2, trivial⟩, by simp only [intOf]; omega⟩
        · have hd2 : decide (((k + 1 : Nat) : Int) < s.size) = false := decide_eq_false (by omega)
          have hd3 : decide ((k : Int) + 1 < s.size) = false := decide_eq_false (by omega)
          have HZ2 := Lib.hid (HZ.out.trans (show slN true (k + 1) (l.drop (k + 1)) = slN false (k + 1 + 1) (l.drop (k + 1 + 1)) by rw [slN_over (by rw [HL.out]; omega), slN_over (by rw [HL.out]; omega)]))
          clear HZ
          go_wp2
          exact ⟨⟨k + 1 + 1, by simp, by omega, HZ2, trivial⟩, by simp only [intOf]; omega⟩
      · have e92 : ((s[k].toNat : Int) == 92) = false := eq_no (c := 92) hx92
        have HZ := Lib.hid (HK.out.trans (slN_go hx10 hx13 hx92 hx47))
        clear HK hx92 hx13 hx10 hx47
        go_wp2
        exact ⟨⟨k + 1, by simp, by omega, HZ, trivial⟩, by simp only [intOf]; omega⟩
    · have hd : decide ((k : Int) < s.size) = false := decide_eq_false (by omega)
      have HZ := Lib.hid (HK.out.trans (slN_over (by rw [HL.out]; omega)))
      clear HK
      go_wp2
      go_ret
      exact ⟨by rw [HZ.out]; rfl, rfl⟩
end Go.Proofs.Ytplgnbedcjanhaa
