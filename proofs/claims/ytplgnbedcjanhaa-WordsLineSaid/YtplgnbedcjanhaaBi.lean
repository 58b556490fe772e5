/- Contracts of the reference: letter, digit, run, slash. -/
import Derived.Test.YtplgnbedcjanhaaBj
set_option maxRecDepth 100000
namespace Go.Proofs.Ytplgnbedcjanhaa
open Go.RowKit

theorem rletter_any (b : Nat) (w : World) : Calls Try.prog 20 #[.int .u8 b] w fun e w' => e = .returned (.bool (isLet b)) ∧ w' = w := by
  go_enter Try.func20, Try.ntmps20
  go_wp2
  all_goals go_ret
  all_goals refine ⟨ret_bool (b := isLet b) ?_, rfl⟩
  all_goals rw [Bool.eq_iff_iff]
  all_goals unfold isLet
  all_goals simp only [Bool.or_eq_true, Bool.and_eq_true, decide_eq_true_eq, beq_iff_eq, true_iff]
  all_goals omega
theorem rdigit_any (b : Nat) (w : World) : Calls Try.prog 22 #[.int .u8 b] w fun e w' => e = .returned (.bool (isDig b)) ∧ w' = w := by
  go_enter Try.func22, Try.ntmps22
  go_wp2
  all_goals go_ret
  all_goals refine ⟨ret_bool (b := isDig b) ?_, rfl⟩
  all_goals rw [Bool.eq_iff_iff]
  all_goals unfold isDig
  all_goals simp only [Bool.false_eq_true, false_iff, Bool.and_eq_true, decide_eq_true_eq]
  all_goals omega
theorem drop_at {l : List Nat} {p j : Nat} (h : p + j < l.length) : ∃ h' : j < (l.drop p).length, (l.drop p)[j] = l[p + j] := ⟨by rw [List.length_drop]; omega, by rw [List.getElem_drop]⟩
set_option maxHeartbeats 4000000 in
theorem rrun_nam (s : ByteArray) (l : List Nat) (hs : bytesOf s = l) (hsz : s.size < 1000000) (p : Nat) (hp : p ≤ s.size) (w : World) :
    Calls Try.prog 21 #[.string s, .int .i64 p, .bool true] w fun e w' => e = .returned (.int .i64 (p + runN isNam (l.drop p) : Nat)) ∧ w' = w := by
  have HS := Lib.hid hs
  have hl : l.length = s.size := by rw [← hs, bytesOf_len]
  have HL := Lib.hid hl
  clear hs hl
  go_enter Try.func21, Try.ntmps21
  go_wp2
  go_loopw [1] (fun z wr => ∃ j : Nat, z = .int .i64 (p + j : Nat) ∧ p + j ≤ s.size ∧ Hid (j ≤ runN isNam (l.drop p)) ∧ wr = w) (fun z _ => s.size - (intOf z).toNat)
  case atStart => exact ⟨0, rfl, hp, Lib.hid (Nat.zero_le _), rfl⟩
  case round =>
    obtain ⟨j, rfl, hk, HK, rfl⟩ := hrel
    obtain ⟨k, hkk⟩ : ∃ k, p + j = k := ⟨_, rfl⟩
    have HKK := Lib.hid hkk
    rw [hkk] at hk ⊢
    clear hkk
    by_cases hlt : k < s.size
    · have hd : decide ((k : Int) < s.size) = true := decide_eq_true (by omega)
      have hki : (k : Int) < s.size := by omega
      obtain ⟨hkl, hx⟩ := get_nat HS.out hlt
      obtain ⟨hj, hdj⟩ := drop_at (l := l) (p := p) (j := j) (by rw [HKK.out]; exact hkl)
      have hxx : (l.drop p)[j] = s[k].toNat := by rw [hdj, ← hx]; simp only [HKK.out]
      have HM := Lib.hid (fun h => runN_more HK.out hj h)
      have HT := Lib.hid (fun h => runN_stop HK.out (.inr ⟨hj, h⟩))
      rw [hxx] at HM HT
      have HLE := Lib.hid (fun W => rletter_any s[k].toNat W)
      have HDI := Lib.hid (fun W => rdigit_any s[k].toNat W)
      have HNA : Hid (isNam s[k].toNat = (isLet s[k].toNat || isDig s[k].toNat)) := Lib.hid rfl
      clear hx hkl hj hdj hxx
      generalize isNam s[k].toNat = v at *
      generalize isLet s[k].toNat = v1 at *
      generalize isDig s[k].toNat = v2 at *
      cases v1 <;> cases v2 <;> obtain rfl := HNA.out
      · have HT2 := Lib.hid (HT.out rfl)
        clear HM HT HK HNA
        go_wp2_with (first
          | (go_at_call 20; (with_reducible refine (HLE.out _).mono ?_); rintro e w5 ⟨rfl, e5⟩; subst w5)
          | (go_at_call 22; (with_reducible refine (HDI.out _).mono ?_); rintro e w5 ⟨rfl, e5⟩; subst w5))
        go_ret
        exact ⟨by rw [HT2.out, HKK.out]; rfl, rfl⟩
      · have HM2 := Lib.hid (HM.out rfl)
        clear HM HT HK HNA
        go_wp2_with (first
          | (go_at_call 20; (with_reducible refine (HLE.out _).mono ?_); rintro e w5 ⟨rfl, e5⟩; subst w5)
          | (go_at_call 22; (with_reducible refine (HDI.out _).mono ?_); rintro e w5 ⟨rfl, e5⟩; subst w5))
        exact ⟨⟨j + 1, by rw [← HKK.out]; rfl, by have := HKK.out; omega, HM2, trivial⟩, by simp only [intOf]; omega⟩
      · have HM2 := Lib.hid (HM.out rfl)
        clear HM HT HK HNA
        go_wp2_with (first
          | (go_at_call 20; (with_reducible refine (HLE.out _).mono ?_); rintro e w5 ⟨rfl, e5⟩; subst w5)
          | (go_at_call 22; (with_reducible refine (HDI.out _).mono ?_); rintro e w5 ⟨rfl, e5⟩; subst w5))
        exact ⟨⟨j + 1, by rw [← HKK.out]; rfl, by have := HKK.out; omega, HM2, trivial⟩, by simp only [intOf]; omega⟩
      · have HM2 := Lib.hid (HM.out rfl)
        clear HM HT HK HNA
        go_wp2_with (first
          | (go_at_call 20; (with_reducible refine (HLE.out _).mono ?_); rintro e w5 ⟨rfl, e5⟩; subst w5)
          | (go_at_call 22; (with_reducible refine (HDI.out _).mono ?_); rintro e w5 ⟨rfl, e5⟩; subst w5))
        exact ⟨⟨j + 1, by rw [← HKK.out]; rfl, by have := HKK.out; omega, HM2, trivial⟩, by simp only [intOf]; omega⟩
    · have hd : decide ((k : Int) < s.size) = false := decide_eq_false (by omega)
      have HT2 := Lib.hid (runN_stop HK.out (.inl (by rw [List.length_drop, HL.out]; have := HKK.out; omega)))
      clear HK
      go_wp2
      go_ret
      exact ⟨by rw [HT2.out, HKK.out]; rfl, rfl⟩
set_option maxHeartbeats 4000000 in
theorem rrun_dig (s : ByteArray) (l : List Nat) (hs : bytesOf s = l) (hsz : s.size < 1000000) (p : Nat) (hp : p ≤ s.size) (w : World) :
    Calls Try.prog 21 #[.string s, .int .i64 p, .bool false] w fun e w' => e = .returned (.int .i64 (p + runN isDig (l.drop p) : Nat)) ∧ w' = w := by
  have HS := Lib.hid hs
  have hl : l.length = s.size := by rw [← hs, bytesOf_len]
  have HL := Lib.hid hl
  clear hs hl
  go_enter Try.func21, Try.ntmps21
  go_wp2
  go_loopw [1] (fun z wr => ∃ j : Nat, z = .int .i64 (p + j : Nat) ∧ p + j ≤ s.size ∧ Hid (j ≤ runN isDig (l.drop p)) ∧ wr = w) (fun z _ => s.size - (intOf z).toNat)
  case atStart => exact ⟨0, rfl, hp, Lib.hid (Nat.zero_le _), rfl⟩
  case round =>
    obtain ⟨j, rfl, hk, HK, rfl⟩ := hrel
    obtain ⟨k, hkk⟩ : ∃ k, p + j = k := ⟨_, rfl⟩
    have HKK := Lib.hid hkk
    rw [hkk] at hk ⊢
    clear hkk
    by_cases hlt : k < s.size
    · have hd : decide ((k : Int) < s.size) = true := decide_eq_true (by omega)
      have hki : (k : Int) < s.size := by omega
      obtain ⟨hkl, hx⟩ := get_nat HS.out hlt
      obtain ⟨hj, hdj⟩ := drop_at (l := l) (p := p) (j := j) (by rw [HKK.out]; exact hkl)
      have hxx : (l.drop p)[j] = s[k].toNat := by rw [hdj, ← hx]; simp only [HKK.out]
      have HM := Lib.hid (fun h => runN_more HK.out hj h)
      have HT := Lib.hid (fun h => runN_stop HK.out (.inr ⟨hj, h⟩))
      rw [hxx] at HM HT
      have HLE := Lib.hid (fun W => rletter_any s[k].toNat W)
      have HDI := Lib.hid (fun W => rdigit_any s[k].toNat W)
      clear hx hkl hj hdj hxx
      generalize isDig s[k].toNat = v2 at *
      cases v2
      · have HT2 := Lib.hid (HT.out rfl)
        clear HM HT HK
        go_wp2_with (first
          | (go_at_call 20; (with_reducible refine (HLE.out _).mono ?_); rintro e w5 ⟨rfl, e5⟩; subst w5)
          | (go_at_call 22; (with_reducible refine (HDI.out _).mono ?_); rintro e w5 ⟨rfl, e5⟩; subst w5))
        go_ret
        exact ⟨by rw [HT2.out, HKK.out]; rfl, rfl⟩
      · have HM2 := Lib.hid (HM.out rfl)
        clear HM HT HK
        go_wp2_with (first
          | (go_at_call 20; (with_reducible refine (HLE.out _).mono ?_); rintro e w5 ⟨rfl, e5⟩; subst w5)
          | (go_at_call 22; (with_reducible refine (HDI.out _).mono ?_); rintro e w5 ⟨rfl, e5⟩; subst w5))
        exact ⟨⟨j + 1, by rw [← HKK.out]; rfl, by have := HKK.out; omega, HM2, trivial⟩, by simp only [intOf]; omega⟩
    · have hd : decide ((k : Int) < s.size) = false := decide_eq_false (by omega)
      have HT2 := Lib.hid (runN_stop HK.out (.inl (by rw [List.length_drop, HL.out]; have := HKK.out; omega)))
      clear HK
      go_wp2
      go_ret
      exact ⟨by rw [HT2.out, HKK.out]; rfl, rfl⟩
end Go.Proofs.Ytplgnbedcjanhaa
