/- Contracts: IsName and Line, of words and of the reference. -/
import Derived.Test.YtplgnbedcjanhaaBf
import Derived.Test.YtplgnbedcjanhaaBi
set_option maxRecDepth 100000
namespace Go.Proofs.Ytplgnbedcjanhaa
open Go.RowKit

theorem run_one {p : Nat → Bool} {b : Nat} {t : List Nat} (h : p b = true) : 1 ≤ runN p (b :: t) := by rw [runN, if_pos h]; omega
theorem nameW_let {b : Nat} {t : List Nat} (h : isLet b = true) : isNameW (b :: t) = (decide ((b :: t).length ≤ 32) && decide (runN isNam (b :: t) = (b :: t).length)) := by
  have hle := runN_le isNam (b :: t)
  have h1 := run_one (p := isNam) (b := b) (t := t) (by unfold isNam; rw [h]; rfl)
  unfold isNameW
  rw [fst_let h]
  generalize runN isNam (b :: t) = n at *
  generalize (b :: t).length = m at *
  by_cases hc : 32 < n
  · rw [cap_yes hc, decide_eq_false (show ¬ m ≤ 32 by omega)]; simp
  · rw [cap_no hc]
    by_cases hm : n = m
    · rw [decide_eq_true hm, decide_eq_true (show m ≤ 32 by omega), decide_eq_true (show 0 < n by omega)]; simp
    · rw [decide_eq_false hm]; simp
theorem nameW_no {b : Nat} {t : List Nat} (h : isLet b = false) : isNameW (b :: t) = false := by
  unfold isNameW
  cases hD : isDig b with
  | true => rw [fst_dig h hD]; simp
  | false =>
    by_cases h47 : b = 47
    · rw [fst_slash h hD h47]; simp
    · by_cases hm : b = 58 ∨ b = 124 ∨ b = 59
      · rw [fst_mark h hD h47 hm]; simp
      · rw [fst_none h hD h47 hm]; simp
set_option maxHeartbeats 4000000 in
theorem isName_any (s : ByteArray) (l : List Nat) (hs : bytesOf s = l) (hsz : s.size < 1000000) (w : World) :
    Calls Try.prog 14 #[.string s] w fun e w' => e = .returned (.bool (isNameW l)) ∧ Hid (Below w.heap.size w w') := by
  have hl : l.length = s.size := by rw [← hs, bytesOf_len]
  have HF := Lib.hid (fun W => first_any s l hs hsz W)
  have HV : Hid (isNameW l = (decide ((fstW l).1 = 0) && (decide (0 < (fstW l).2) && decide ((fstW l).2 = l.length)))) := Lib.hid rfl
  have hle := fstW_le l
  rw [hl] at HV hle
  generalize isNameW l = v at *
  generalize (fstW l).1 = k at *
  generalize (fstW l).2 = n at *
  clear hs hl
  by_cases hk : k = 0
  · have e0 : ((k : Int) == 0) = true := eq_yes (c := 0) hk
    by_cases hn : 0 < n
    · have d1 : decide ((n : Int) > 0) = true := decide_eq_true (by omega)
      have d2 : decide ((0 : Int) < n) = true := decide_eq_true (by omega)
      by_cases he : n = s.size
      · have e1 : ((n : Int) == (s.size : Int)) = true := eq_yes he
        have HV2 : Hid (v = true) := Lib.hid (by rw [HV.out, decide_eq_true hk, decide_eq_true hn, decide_eq_true he]; rfl)
        clear HV hk he
        go_enter Try.func14, Try.ntmps14
        go_wp2_with (go_at_call 26; (with_reducible refine (HF.out _).mono ?_); rintro e w5 ⟨rfl, hb⟩)
        go_ret
        exact ⟨by rw [HV2.out]; rfl, hb⟩
      · have e1 : ((n : Int) == (s.size : Int)) = false := eq_no he
        have HV2 : Hid (v = false) := Lib.hid (by rw [HV.out, decide_eq_false he]; simp)
        clear HV hk he
        go_enter Try.func14, Try.ntmps14
        go_wp2_with (go_at_call 26; (with_reducible refine (HF.out _).mono ?_); rintro e w5 ⟨rfl, hb⟩)
        go_ret
        exact ⟨by rw [HV2.out]; rfl, hb⟩
    · have d1 : decide ((n : Int) > 0) = false := decide_eq_false (by omega)
      have d2 : decide ((0 : Int) < n) = false := decide_eq_false (by omega)
      have HV2 : Hid (v = false) := Lib.hid (by rw [HV.out, decide_eq_false hn]; simp)
      clear HV hk
      have hn0 : n = 0 := by omega
      subst hn0
      clear d1 d2 hn
      go_enter Try.func14, Try.ntmps14
      go_wp2_with (go_at_call 26; (with_reducible refine (HF.out _).mono ?_); rintro e w5 ⟨rfl, hb⟩)
      go_ret
      exact ⟨by rw [HV2.out]; rfl, hb⟩
  · have e0 : ((k : Int) == 0) = false := eq_no (c := 0) hk
    have HV2 : Hid (v = false) := Lib.hid (by rw [HV.out, decide_eq_false hk]; simp)
    clear HV hk
    go_enter Try.func14, Try.ntmps14
    go_wp2_with (go_at_call 26; (with_reducible refine (HF.out _).mono ?_); rintro e w5 ⟨rfl, hb⟩)
    go_ret
    exact ⟨by rw [HV2.out]; rfl, hb⟩
set_option maxHeartbeats 4000000 in
theorem risName_any (s : ByteArray) (l : List Nat) (hs : bytesOf s = l) (hsz : s.size < 1000000) (w : World) :
    Calls Try.prog 15 #[.string s] w fun e w' => e = .returned (.bool (isNameW l)) ∧ w' = w := by
  have hl : l.length = s.size := by rw [← hs, bytesOf_len]
  by_cases h0 : s.size = 0
  · have hs0 : s = ⟨#[]⟩ := by
      apply ByteArray.ext
      exact Array.eq_empty_of_size_eq_zero h0
    have hl0 : l = [] := List.eq_nil_of_length_eq_zero (by omega)
    subst hl0
    clear hs hl h0 hsz
    subst hs0
    go_enter Try.func15, Try.ntmps15
    go_wp2
    go_ret
    exact ⟨rfl, rfl⟩
  · have h1 : 0 < s.size := by omega
    have hne : (s.toList == (⟨#[]⟩ : ByteArray).toList) = false := by
      rw [beq_eq_false_iff_ne]
      intro e
      rw [Lib.toList_data, Lib.toList_data] at e
      rw [Lib.size_eq, e] at h0
      exact h0 rfl
    have hne2 : s.toList.isEmpty = false := by
      rw [Lib.toList_data]
      cases e : s.data.toList with
      | nil => rw [Lib.size_eq, e] at h0; exact absurd rfl h0
      | cons => rfl
    have hne3 : (s.toList != (⟨#[]⟩ : ByteArray).toList) = true := by rw [bne, hne]; rfl
    obtain ⟨hl0, hx⟩ := get_nat hs h1
    obtain ⟨t, ht⟩ : ∃ t, l = s[0].toNat :: t := by
      cases l with
      | nil => simp at hl0
      | cons b t => exact ⟨t, by rw [← hx]; rfl⟩
    have HL := Lib.hid (fun W => rletter_any s[0].toNat W)
    have HR := Lib.hid (fun W => rrun_nam s l hs hsz 0 (Nat.zero_le _) W)
    rw [List.drop_zero, Nat.zero_add] at HR
    have HR : Hid (∀ W, Calls Try.prog 21 #[.string s, .int .i64 0, .bool true] W fun e w' => e = .returned (.int .i64 (runN isNam l : Nat)) ∧ w' = W) := HR
    cases hL : isLet s[0].toNat
    · have hv := nameW_no (t := t) hL
      rw [← ht] at hv
      rw [hL] at HL
      have HV := Lib.hid hv
      clear hv hs hl h0 hl0 hx ht hL
      by_cases h32 : s.size ≤ 32
      · have d1 : decide ((s.size : Int) ≤ 32) = true := decide_eq_true (by omega)
        go_enter Try.func15, Try.ntmps15
        go_wp2_with (go_at_call 20; (with_reducible refine (HL.out _).mono ?_); rintro e w5 ⟨rfl, h5⟩; subst w5)
        go_ret
        exact ⟨by rw [HV.out]; rfl, rfl⟩
      · have d1 : decide ((s.size : Int) ≤ 32) = false := decide_eq_false (by omega)
        go_enter Try.func15, Try.ntmps15
        go_wp2
        go_ret
        exact ⟨by rw [HV.out]; rfl, rfl⟩
    · have hv := nameW_let (t := t) hL
      rw [← ht, hl] at hv
      rw [hL] at HL
      generalize runN isNam l = n at *
      have HV := Lib.hid hv
      clear hv hs hl h0 hl0 hx ht hL
      by_cases h32 : s.size ≤ 32
      · have d1 : decide ((s.size : Int) ≤ 32) = true := decide_eq_true (by omega)
        by_cases he : n = s.size
        · have e1 : ((n : Int) == (s.size : Int)) = true := eq_yes he
          have HV2 : Hid (isNameW l = true) := Lib.hid (by rw [HV.out, decide_eq_true h32, decide_eq_true he]; rfl)
          clear HV he
          go_enter Try.func15, Try.ntmps15
          go_wp2_with (first
            | (go_at_call 20; (with_reducible refine (HL.out _).mono ?_); rintro e w5 ⟨rfl, h5⟩; subst w5)
            | (go_at_call 21; (with_reducible refine (HR.out _).mono ?_); rintro e w5 ⟨rfl, h5⟩; subst w5))
          go_ret
          exact ⟨by rw [HV2.out]; rfl, rfl⟩
        · have e1 : ((n : Int) == (s.size : Int)) = false := eq_no he
          have HV2 : Hid (isNameW l = false) := Lib.hid (by rw [HV.out, decide_eq_false he]; simp)
          clear HV he
          go_enter Try.func15, Try.ntmps15
          go_wp2_with (first
            | (go_at_call 20; (with_reducible refine (HL.out _).mono ?_); rintro e w5 ⟨rfl, h5⟩; subst w5)
            | (go_at_call 21; (with_reducible refine (HR.out _).mono ?_); rintro e w5 ⟨rfl, h5⟩; subst w5))
          go_ret
          exact ⟨by rw [HV2.out]; rfl, rfl⟩
      · have d1 : decide ((s.size : Int) ≤ 32) = false := decide_eq_false (by omega)
        have HV2 : Hid (isNameW l = false) := Lib.hid (by rw [HV.out, decide_eq_false h32]; rfl)
        clear HV
        go_enter Try.func15, Try.ntmps15
        go_wp2
        go_ret
        exact ⟨by rw [HV2.out]; rfl, rfl⟩
/-- Line and column behind a text. -/
def lineS (p : Nat × Nat) (b : Nat) : Nat × Nat := if b = 10 then (p.1 + 1, 1) else (p.1, p.2 + 1)
def lineL (l : List Nat) : Nat × Nat := l.foldl lineS (1, 1)
theorem lineL_snoc (l : List Nat) (b : Nat) : lineL (l ++ [b]) = lineS (lineL l) b := by unfold lineL; rw [List.foldl_append]; rfl
theorem lineL_take {l : List Nat} {k : Nat} (h : k < l.length) : lineL (l.take (k + 1)) = lineS (lineL (l.take k)) l[k] := by
  rw [List.take_succ_eq_append_getElem h, lineL_snoc]
theorem lineL_one (l : List Nat) : (lineL l).1 = 1 + l.count 10 := by
  have h : ∀ (l : List Nat) (p : Nat × Nat), (l.foldl lineS p).1 = p.1 + l.count 10 := by
    intro l
    induction l with
    | nil => intro p; rfl
    | cons b l ih =>
      intro p
      rw [List.foldl_cons, ih, List.count_cons]
      unfold lineS
      by_cases hb : b = 10
      · subst hb; simp; omega
      · simp [hb]
  exact h l (1, 1)
theorem count_nat (l : List UInt8) : Lib.countByte l 10 = (l.map UInt8.toNat).count 10 := by
  unfold Lib.countByte
  induction l with
  | nil => rfl
  | cons b l ih =>
    rw [List.map_cons, List.count_cons, List.count_cons, ih]
    congr 1
    by_cases h : b = 10
    · subst h; rfl
    · have h1 : ¬ b.toNat = 10 := fun e => h (UInt8.toNat_inj.1 e)
      simp [h, h1]
theorem last_nat (s : ByteArray) : ∀ k, k ≤ s.size → ((lineL ((bytesOf s).take k)).2 : Int) = k - Lib.lastIdx s 10 k
  | 0, _ => by rw [List.take_zero]; show ((1 : Nat) : Int) = ((0 : Nat) : Int) - (-1); rfl
  | k + 1, h => by
    have ih := last_nat s k (by omega)
    have hk : k < (bytesOf s).length := by rw [bytesOf_len]; omega
    rw [lineL_take hk, bytesOf_get s k (by omega) hk]
    unfold lineS
    by_cases hb : s[k].toNat = 10
    · rw [if_pos hb, Lib.lastIdx_hit s 10 k (by rw [byteBang s k (by omega)]; omega)]
      show ((1 : Nat) : Int) = _
      omega
    · rw [if_neg hb, Lib.lastIdx_miss s 10 k (by rw [byteBang s k (by omega)]; omega)]
      show (((lineL ((bytesOf s).take k)).2 + 1 : Nat) : Int) = _
      omega
theorem lastIdx_ge (s : ByteArray) : ∀ k, -1 ≤ Lib.lastIdx s 10 k ∧ Lib.lastIdx s 10 k < k
  | 0 => by show -1 ≤ (-1 : Int) ∧ (-1 : Int) < ((0 : Nat) : Int); omega
  | k + 1 => by
    have := lastIdx_ge s k
    unfold Lib.lastIdx
    split <;> omega
/-- What stands ahead of a place. -/
theorem clamp (s : ByteArray) (at' : Int) : ∃ k : Nat, k ≤ s.size ∧ min (max at' 0) (s.size : Int) = k := ⟨(min (max at' 0) (s.size : Int)).toNat, by omega, by omega⟩
set_option maxHeartbeats 4000000 in
theorem line_any (s : ByteArray) (l : List Nat) (hs : bytesOf s = l) (hsz : s.size < 1000000) (at' : Int) (k : Nat) (hk : k ≤ s.size) (hm : min (max at' 0) (s.size : Int) = k) (w : World) :
    Calls Try.prog 12 #[.string s, .int .i64 at'] w fun e w' => e = .returned (.tuple #[.int .i64 ((lineL (l.take k)).1 : Nat), .int .i64 ((lineL (l.take k)).2 : Nat)]) ∧ w' = w := by
  have hb : bytesOf (s.extract 0 k) = l.take k := by rw [ext_bytes, hs, List.drop_zero]
  have hz : (s.extract 0 k).size = k := by rw [← bytesOf_len, hb, List.length_take, ← hs, bytesOf_len]; omega
  have HC := Lib.hid (fun W => count_any (s.extract 0 k) W)
  have HL := Lib.hid (fun W => last_any (s.extract 0 k) 10 (by omega) W)
  have h1 : Lib.countByte (s.extract 0 k).data.toList 10 = (l.take k).count 10 := by rw [count_nat, ← hb]; rfl
  have h2 := last_nat (s.extract 0 k) k (by omega)
  rw [hb, List.take_take, Nat.min_self] at h2
  have h3 := lastIdx_ge (s.extract 0 k) k
  have h4 : Lib.lastIndexByte (s.extract 0 k) 10 = Lib.lastIdx (s.extract 0 k) 10 k := by unfold Lib.lastIndexByte; rw [hz]
  have h5 := lineL_one (l.take k)
  have h6 : (l.take k).count 10 ≤ k := by have := List.count_le_length (l := l.take k) (a := 10); rw [List.length_take] at this; omega
  rw [h1] at HC
  rw [h4] at HL
  generalize Lib.lastIdx (s.extract 0 k) 10 k = z at *
  generalize (l.take k).count 10 = c at *
  generalize (lineL (l.take k)).1 = a at *
  generalize (lineL (l.take k)).2 = b at *
  have H5 := Lib.hid h5
  have H2 := Lib.hid h2
  clear h1 h4 hb hs h5 h2
  go_enter Try.func12, Try.ntmps12
  go_wp2_with (first
    | (go_at_call 24; (with_reducible refine (HC.out _).mono ?_); rintro e w5 ⟨rfl, h9⟩; subst w5)
    | (go_at_call 25; (with_reducible refine (HL.out _).mono ?_); rintro e w5 ⟨rfl, h9⟩; subst w5))
  refine bodyPost_ret (results_tmp2 rfl _ _ _) rfl ?_
  exact ⟨by rw [H5.out, H2.out]; simp, rfl⟩
set_option maxHeartbeats 4000000 in
theorem rline_any (s : ByteArray) (l : List Nat) (hs : bytesOf s = l) (hsz : s.size < 1000000) (at' : Int) (k : Nat) (hk : k ≤ s.size) (hm : min (max at' 0) (s.size : Int) = k) (w : World) :
    Calls Try.prog 13 #[.string s, .int .i64 at'] w fun e w' => e = .returned (.tuple #[.int .i64 ((lineL (l.take k)).1 : Nat), .int .i64 ((lineL (l.take k)).2 : Nat)]) ∧ w' = w := by
  have HS := Lib.hid hs
  have hl : l.length = s.size := by rw [← hs, bytesOf_len]
  have HL := Lib.hid hl
  have HM := Lib.hid hm
  clear hs hl hm
  go_enter Try.func13, Try.ntmps13
  go_wp2
  go_loopw [6, 7, 8] (fun a b z wr => ∃ i p q : Nat, a = .int .i64 p ∧ b = .int .i64 q ∧ z = .int .i64 i ∧ i ≤ k ∧ p ≤ i + 1 ∧ q ≤ i + 1 ∧ Hid (lineL (l.take i) = (p, q)) ∧ wr = w) (fun _ _ z _ => k - (intOf z).toNat)
  case atStart => exact ⟨0, 1, 1, rfl, rfl, rfl, Nat.zero_le _, by omega, by omega, Lib.hid rfl, rfl⟩
  case round =>
    obtain ⟨i, p, q, rfl, rfl, rfl, hi, hp, hq, HI, rfl⟩ := hrel
    have hm := HM.out
    by_cases hlt : i < k
    · have d1 : decide ((i : Int) < at') = true := decide_eq_true (by omega)
      have d2 : decide ((i : Int) < s.size) = true := decide_eq_true (by omega)
      have hki : (i : Int) < s.size := by omega
      obtain ⟨hil, hx⟩ := get_nat HS.out (show i < s.size by omega)
      have hT := lineL_take hil
      rw [HI.out, hx] at hT
      clear hx hil hm
      by_cases h10 : s[i].toNat = 10
      · have e10 : ((s[i].toNat : Int) == 10) = true := eq_yes (c := 10) h10
        have HT : Hid (lineL (l.take (i + 1)) = (p + 1, 1)) := Lib.hid (by rw [hT]; unfold lineS; rw [if_pos h10])
        clear hT h10 HI
        go_wp2
        exact ⟨⟨i + 1, p + 1, 1, by simp, rfl, by simp, hlt, by omega, by omega, HT, trivial⟩, by simp only [intOf]; omega⟩
      · have e10 : ((s[i].toNat : Int) == 10) = false := eq_no (c := 10) h10
        have HT : Hid (lineL (l.take (i + 1)) = (p, q + 1)) := Lib.hid (by rw [hT]; unfold lineS; rw [if_neg h10])
        clear hT h10 HI
        go_wp2
        exact ⟨⟨i + 1, p, q + 1, rfl, by simp, by simp, hlt, by omega, by omega, HT, trivial⟩, by simp only [intOf]; omega⟩
    · obtain rfl : i = k := by omega
      have HI2 := Lib.hid HI.out
      clear HI
      by_cases ha : (i : Int) < at'
      · have d1 : decide ((i : Int) < at') = true := decide_eq_true ha
        obtain rfl : i = s.size := by omega
        have d2 : decide ((s.size : Int) < s.size) = false := by simp
        clear hm
        go_wp2
        refine bodyPost_ret (results_tmp2 rfl _ _ _) rfl ?_
        exact ⟨by rw [HI2.out]; rfl, rfl⟩
      · have d1 : decide ((i : Int) < at') = false := decide_eq_false ha
        clear hm
        go_wp2
        refine bodyPost_ret (results_tmp2 rfl _ _ _) rfl ?_
        exact ⟨by rw [HI2.out]; rfl, rfl⟩
end Go.Proofs.Ytplgnbedcjanhaa
