/- Contracts of the closures that words.run makes. -/
import Derived.Test.YtplgnbedcjanhaaBc
set_option maxRecDepth 100000
namespace Go.Proofs.Ytplgnbedcjanhaa
open Go.RowKit

set_option maxHeartbeats 4000000 in
theorem run1_dig (bo bm m : Nat) (s : ByteArray) (l : List Nat) (hs : bytesOf s = l) (hsz : s.size < 1000000) (w : World) (c0 : w.cell? ⟨bo, 0, none⟩ = some (.func (.func 46) #[] #[])) (c1 : w.cell? ⟨bm, 0, none⟩ = some (.int .i64 m)) :
    Calls Try.prog 57 #[.string s, .pointer (some ⟨bo, 0, none⟩), .pointer (some ⟨bm, 0, none⟩)] w fun e w' => e = .returned (.int .i64 (capN m (runN isDig l) : Nat)) ∧ ∃ n, w' = w.drewN n := by
  have HS := Lib.hid hs
  have hl : l.length = s.size := by rw [← hs, bytesOf_len]
  have HL := Lib.hid hl
  clear hs hl
  go_enter Try.func57, Try.ntmps57
  go_wp2
  go_loopw [5] (fun z wr => ∃ k : Nat, z = .int .i64 k ∧ k ≤ s.size ∧ Hid (k ≤ runN isDig l) ∧ wr.cell? ⟨bo, 0, none⟩ = some (.func (.func 46) #[] #[]) ∧ wr.cell? ⟨bm, 0, none⟩ = some (.int .i64 m) ∧ Hid (∃ n, wr = w.drewN n)) (fun z _ => s.size - (intOf z).toNat)
  case atStart => exact ⟨0, rfl, Nat.zero_le _, Lib.hid (Nat.zero_le _), c0, c1, Lib.hid ⟨0, rfl⟩⟩
  case round =>
    obtain ⟨k, rfl, hk, HK, d0, d1, HW⟩ := hrel
    clear c0 c1
    by_cases hlt : k < s.size
    · have hd : decide ((k : Int) < s.size) = true := decide_eq_true (by omega)
      have hki : (k : Int) < s.size := by omega
      obtain ⟨hkl, hx⟩ := get_nat HS.out hlt
      have HM := Lib.hid (fun h => runN_more HK.out hkl h)
      have HT := Lib.hid (fun h => runN_stop HK.out (.inr ⟨hkl, h⟩))
      have HD := Lib.hid (fun W => digit_any s[k].toNat W)
      rw [hx] at HM HT
      clear hx hkl
      generalize isDig s[k].toNat = v at *
      cases v
      · have HT2 := Lib.hid (HT.out rfl)
        clear HM HT HK
        go_upto_region 2 with fail
        go_quiet (first | (go_at_call 46; (with_reducible refine Calls.quiet_of_same (HD.out _))))
        by_cases hc : m < k
        · have h9 : decide ((k : Int) > m) = true := decide_eq_true (by omega)
          have h8 : decide ((m : Int) < k) = true := decide_eq_true (by omega)
          go_wp2
          go_ret
          exact ⟨by rw [HT2.out, cap_yes hc]; rfl, by obtain ⟨n, rfl⟩ := HW.out; exact ⟨_, World.drewN_drewN _ _ _⟩⟩
        · have h9 : decide ((k : Int) > m) = false := decide_eq_false (by omega)
          have h8 : decide ((m : Int) < k) = false := decide_eq_false (by omega)
          have h7 : decide (m < k) = false := decide_eq_false hc
          go_wp2
          go_ret
          exact ⟨by rw [HT2.out, cap_no hc]; rfl, by obtain ⟨n, rfl⟩ := HW.out; exact ⟨_, World.drewN_drewN _ _ _⟩⟩
      · have HM2 := Lib.hid (HM.out rfl)
        clear HM HT HK
        go_upto_region 2 with fail
        go_quiet (first | (go_at_call 46; (with_reducible refine Calls.quiet_of_same (HD.out _))))
        go_wp2
        go_roundw
        case rel => exact ⟨k + 1, rfl, hlt, HM2, d0, d1, Lib.hid (by obtain ⟨n, rfl⟩ := HW.out; exact ⟨_, World.drewN_drewN _ _ _⟩)⟩
        case measure => simp only [intOf]; omega
    · obtain rfl : k = s.size := by omega
      have hd : decide ((s.size : Int) < s.size) = false := by simp
      have HT2 := Lib.hid (runN_stop HK.out (.inl HL.out.symm))
      clear HK
      go_upto_region 2 with fail
      go_quiet (fail)
      by_cases hc : m < s.size
      · have h9 : decide ((s.size : Int) > m) = true := decide_eq_true (by omega)
        have h8 : decide ((m : Int) < s.size) = true := decide_eq_true (by omega)
        go_wp2
        go_ret
        exact ⟨by rw [HT2.out, cap_yes hc]; rfl, by obtain ⟨n, rfl⟩ := HW.out; exact ⟨_, World.drewN_drewN _ _ _⟩⟩
      · have h9 : decide ((s.size : Int) > m) = false := decide_eq_false (by omega)
        have h8 : decide ((m : Int) < s.size) = false := decide_eq_false (by omega)
        have h7 : decide (m < s.size) = false := decide_eq_false hc
        go_wp2
        go_ret
        exact ⟨by rw [HT2.out, cap_no hc]; rfl, by obtain ⟨n, rfl⟩ := HW.out; exact ⟨_, World.drewN_drewN _ _ _⟩⟩
set_option maxHeartbeats 4000000 in
theorem run1_nam (bo bm m : Nat) (s : ByteArray) (l : List Nat) (hs : bytesOf s = l) (hsz : s.size < 1000000) (w : World) (c0 : w.cell? ⟨bo, 0, none⟩ = some (.func (.func 45) #[] #[])) (c1 : w.cell? ⟨bm, 0, none⟩ = some (.int .i64 m)) :
    Calls Try.prog 57 #[.string s, .pointer (some ⟨bo, 0, none⟩), .pointer (some ⟨bm, 0, none⟩)] w fun e w' => e = .returned (.int .i64 (capN m (runN isNam l) : Nat)) ∧ ∃ n, w' = w.drewN n := by
  have HS := Lib.hid hs
  have hl : l.length = s.size := by rw [← hs, bytesOf_len]
  have HL := Lib.hid hl
  clear hs hl
  go_enter Try.func57, Try.ntmps57
  go_wp2
  go_loopw [5] (fun z wr => ∃ k : Nat, z = .int .i64 k ∧ k ≤ s.size ∧ Hid (k ≤ runN isNam l) ∧ wr.cell? ⟨bo, 0, none⟩ = some (.func (.func 45) #[] #[]) ∧ wr.cell? ⟨bm, 0, none⟩ = some (.int .i64 m) ∧ Hid (∃ n, wr = w.drewN n)) (fun z _ => s.size - (intOf z).toNat)
  case atStart => exact ⟨0, rfl, Nat.zero_le _, Lib.hid (Nat.zero_le _), c0, c1, Lib.hid ⟨0, rfl⟩⟩
  case round =>
    obtain ⟨k, rfl, hk, HK, d0, d1, HW⟩ := hrel
    clear c0 c1
    by_cases hlt : k < s.size
    · have hd : decide ((k : Int) < s.size) = true := decide_eq_true (by omega)
      have hki : (k : Int) < s.size := by omega
      obtain ⟨hkl, hx⟩ := get_nat HS.out hlt
      have HM := Lib.hid (fun h => runN_more HK.out hkl h)
      have HT := Lib.hid (fun h => runN_stop HK.out (.inr ⟨hkl, h⟩))
      have HD := Lib.hid (fun W => nam_any s[k].toNat W)
      rw [hx] at HM HT
      clear hx hkl
      generalize isNam s[k].toNat = v at *
      cases v
      · have HT2 := Lib.hid (HT.out rfl)
        clear HM HT HK
        go_upto_region 2 with fail
        go_quiet (first | (go_at_call 45; (with_reducible refine Calls.quiet_of_same (HD.out _))))
        by_cases hc : m < k
        · have h9 : decide ((k : Int) > m) = true := decide_eq_true (by omega)
          have h8 : decide ((m : Int) < k) = true := decide_eq_true (by omega)
          go_wp2
          go_ret
          exact ⟨by rw [HT2.out, cap_yes hc]; rfl, by obtain ⟨n, rfl⟩ := HW.out; exact ⟨_, World.drewN_drewN _ _ _⟩⟩
        · have h9 : decide ((k : Int) > m) = false := decide_eq_false (by omega)
          have h8 : decide ((m : Int) < k) = false := decide_eq_false (by omega)
          have h7 : decide (m < k) = false := decide_eq_false hc
          go_wp2
          go_ret
          exact ⟨by rw [HT2.out, cap_no hc]; rfl, by obtain ⟨n, rfl⟩ := HW.out; exact ⟨_, World.drewN_drewN _ _ _⟩⟩
      · have HM2 := Lib.hid (HM.out rfl)
        clear HM HT HK
        go_upto_region 2 with fail
        go_quiet (first | (go_at_call 45; (with_reducible refine Calls.quiet_of_same (HD.out _))))
        go_wp2
        go_roundw
        case rel => exact ⟨k + 1, rfl, hlt, HM2, d0, d1, Lib.hid (by obtain ⟨n, rfl⟩ := HW.out; exact ⟨_, World.drewN_drewN _ _ _⟩)⟩
        case measure => simp only [intOf]; omega
    · obtain rfl : k = s.size := by omega
      have hd : decide ((s.size : Int) < s.size) = false := by simp
      have HT2 := Lib.hid (runN_stop HK.out (.inl HL.out.symm))
      clear HK
      go_upto_region 2 with fail
      go_quiet (fail)
      by_cases hc : m < s.size
      · have h9 : decide ((s.size : Int) > m) = true := decide_eq_true (by omega)
        have h8 : decide ((m : Int) < s.size) = true := decide_eq_true (by omega)
        go_wp2
        go_ret
        exact ⟨by rw [HT2.out, cap_yes hc]; rfl, by obtain ⟨n, rfl⟩ := HW.out; exact ⟨_, World.drewN_drewN _ _ _⟩⟩
      · have h9 : decide ((s.size : Int) > m) = false := decide_eq_false (by omega)
        have h8 : decide ((m : Int) < s.size) = false := decide_eq_false (by omega)
        have h7 : decide (m < s.size) = false := decide_eq_false hc
        go_wp2
        go_ret
        exact ⟨by rw [HT2.out, cap_no hc]; rfl, by obtain ⟨n, rfl⟩ := HW.out; exact ⟨_, World.drewN_drewN _ _ _⟩⟩
end Go.Proofs.Ytplgnbedcjanhaa
