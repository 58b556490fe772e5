/- Contracts: run, form, first. -/
import Derived.Test.YtplgnbedcjanhaaBd
import Derived.Test.YtplgnbedcjanhaaBe
set_option maxRecDepth 100000
namespace Go.Proofs.Ytplgnbedcjanhaa
open Go.RowKit

/-- What run leaves: two boxes. -/
def runW (w : World) (m : Nat) (f : Value) : World := (w.alloc (.cells #[.int .i64 m] 3)).alloc (.cells #[f] 46)
theorem runW_below (w : World) (m : Nat) (f : Value) : Below w.heap.size w (runW w m f) := below2 w _ _
theorem run_any (m g : Nat) (w : World) :
    Calls Try.prog 44 #[.int .i64 m, .func (.func g) #[] #[]] w fun e w' => e = .returned (.func (.func 57) #[] #[.pointer (some ⟨w.heap.size + 1, 0, none⟩), .pointer (some ⟨w.heap.size, 0, none⟩)]) ∧ w' = runW w m (.func (.func g) #[] #[]) := by
  go_enter Try.func44, Try.ntmps44
  go_wp2
  go_ret
  exact ⟨rfl, rfl⟩
theorem runW_of (w : World) (m : Nat) (f : Value) : (runW w m f).cell? ⟨w.heap.size + 1, 0, none⟩ = some f := by
  have h := heap_alloc_new (w.alloc (.cells #[.int .i64 m] 3)) (.cells #[f] 46)
  rw [World.size_alloc] at h
  exact (cell_of_row _ _ 0 _ _ _ h).trans rfl
theorem runW_most (w : World) (m : Nat) (f : Value) : (runW w m f).cell? ⟨w.heap.size, 0, none⟩ = some (.int .i64 m) := by
  have h := heap_alloc_new w (.cells #[.int .i64 m] 3)
  have h2 := (heap_alloc_old (w.alloc (.cells #[.int .i64 m] 3)) (.cells #[f] 46) (by simp)).trans h
  exact (cell_of_row _ _ 0 _ _ _ h2).trans rfl
/-- The kind of the words that begin with a byte. -/
def kindB (b : Nat) : Nat := if isLet b = true then 0 else if isDig b = true then 1 else if b = 47 then 2 else if b = 58 ∨ b = 124 ∨ b = 59 then 3 else 4
theorem mark_idx {b : Nat} (hb : b < 256) : decide (Lib.indexByte [58, 124, 59] ((b : Int).toNat).toUInt8 ≥ 0) = decide (b = 58 ∨ b = 124 ∨ b = 59) := by
  have h : ∀ b : Fin 256, decide (Lib.indexByte [58, 124, 59] ((b.val : Int).toNat).toUInt8 ≥ 0) = decide (b.val = 58 ∨ b.val = 124 ∨ b.val = 59) := by decide +kernel
  exact h ⟨b, hb⟩
set_option maxHeartbeats 2000000 in
theorem form_let (b : Nat) (h : isLet b = true) (w : World) :
    Calls Try.prog 37 #[.int .u8 b] w fun e w' => e = .returned (.tuple #[.int .i64 0, .func (.func 57) #[] #[.pointer (some ⟨w.heap.size + 1, 0, none⟩), .pointer (some ⟨w.heap.size, 0, none⟩)]]) ∧ w' = runW w 32 (.func (.func 45) #[] #[]) := by
  have HL := Lib.hid (fun W => letter_any b W)
  rw [h] at HL
  clear h
  have HR : Hid (∀ g W, Calls Try.prog 44 #[.int .i64 32, .func (.func g) #[] #[]] W fun e w' => e = .returned (.func (.func 57) #[] #[.pointer (some ⟨W.heap.size + 1, 0, none⟩), .pointer (some ⟨W.heap.size, 0, none⟩)]) ∧ w' = runW W 32 (.func (.func g) #[] #[])) := Lib.hid (fun g W => run_any 32 g W)
  go_enter Try.func37, Try.ntmps37
  go_wp2_with (first
    | (go_at_call 43; (with_reducible refine (HL.out _).mono ?_); rintro e w5 ⟨rfl, e5⟩; subst w5)
    | (go_at_call 44; (with_reducible refine (HR.out _ _).mono ?_); rintro e w5 ⟨rfl, e5⟩; subst w5))
  refine bodyPost_ret (results_tmp2 rfl _ _ _) rfl ?_
  exact ⟨rfl, rfl⟩
set_option maxHeartbeats 2000000 in
theorem form_dig (b : Nat) (h0 : isLet b = false) (h : isDig b = true) (w : World) :
    Calls Try.prog 37 #[.int .u8 b] w fun e w' => e = .returned (.tuple #[.int .i64 1, .func (.func 57) #[] #[.pointer (some ⟨w.heap.size + 1, 0, none⟩), .pointer (some ⟨w.heap.size, 0, none⟩)]]) ∧ w' = runW w 4 (.func (.func 46) #[] #[]) := by
  have HL := Lib.hid (fun W => letter_any b W)
  have HD := Lib.hid (fun W => digit_any b W)
  rw [h0] at HL
  rw [h] at HD
  clear h h0
  have HR : Hid (∀ g W, Calls Try.prog 44 #[.int .i64 4, .func (.func g) #[] #[]] W fun e w' => e = .returned (.func (.func 57) #[] #[.pointer (some ⟨W.heap.size + 1, 0, none⟩), .pointer (some ⟨W.heap.size, 0, none⟩)]) ∧ w' = runW W 4 (.func (.func g) #[] #[])) := Lib.hid (fun g W => run_any 4 g W)
  go_enter Try.func37, Try.ntmps37
  go_wp2_with (first
    | (go_at_call 43; (with_reducible refine (HL.out _).mono ?_); rintro e w5 ⟨rfl, e5⟩; subst w5)
    | (go_at_call 46; (with_reducible refine (HD.out _).mono ?_); rintro e w5 ⟨rfl, e5⟩; subst w5)
    | (go_at_call 44; (with_reducible refine (HR.out _ _).mono ?_); rintro e w5 ⟨rfl, e5⟩; subst w5))
  refine bodyPost_ret (results_tmp2 rfl _ _ _) rfl ?_
  exact ⟨rfl, rfl⟩
set_option maxHeartbeats 2000000 in
theorem form_slash (b : Nat) (h0 : isLet b = false) (h1 : isDig b = false) (h : b = 47) (w : World) :
    Calls Try.prog 37 #[.int .u8 b] w fun e w' => e = .returned (.tuple #[.int .i64 2, .func (.func 47) #[] #[]]) ∧ w' = w := by
  have HL := Lib.hid (fun W => letter_any b W)
  have HD := Lib.hid (fun W => digit_any b W)
  rw [h0] at HL
  rw [h1] at HD
  have e47 : ((b : Int) == 47) = true := eq_yes (c := 47) h
  clear h h0 h1
  go_enter Try.func37, Try.ntmps37
  go_wp2_with (first
    | (go_at_call 43; (with_reducible refine (HL.out _).mono ?_); rintro e w5 ⟨rfl, e5⟩; subst w5)
    | (go_at_call 46; (with_reducible refine (HD.out _).mono ?_); rintro e w5 ⟨rfl, e5⟩; subst w5))
  refine bodyPost_ret (results_tmp2 rfl _ _ _) rfl ?_
  exact ⟨rfl, rfl⟩
set_option maxHeartbeats 2000000 in
theorem form_rest (b : Nat) (hb : b < 256) (h0 : isLet b = false) (h1 : isDig b = false) (h2 : ¬ b = 47) (w : World) :
    Calls Try.prog 37 #[.int .u8 b] w fun e w' => e = .returned (if b = 58 ∨ b = 124 ∨ b = 59 then .tuple #[.int .i64 3, .func (.func 49) #[] #[]] else .tuple #[.int .i64 0, .func (.func 50) #[] #[]]) ∧ w' = w := by
  have HL := Lib.hid (fun W => letter_any b W)
  have HD := Lib.hid (fun W => digit_any b W)
  rw [h0] at HL
  rw [h1] at HD
  have e47 : ((b : Int) == 47) = false := eq_no (c := 47) h2
  have hm := mark_idx hb
  have HI := Lib.hid (fun W => indexByte_any ⟨#[58, 124, 59]⟩ b W)
  have HI : Hid (∀ W, Calls Try.prog 48 #[.string ⟨#[58, 124, 59]⟩, .int .u8 b] W fun e w' => e = .returned (.int .i64 (Lib.indexByte [58, 124, 59] ((b : Int).toNat).toUInt8)) ∧ w' = W) := HI
  clear h0 h1 h2
  generalize Lib.indexByte [58, 124, 59] ((b : Int).toNat).toUInt8 = z at *
  by_cases h : b = 58 ∨ b = 124 ∨ b = 59
  · rw [decide_eq_true h] at hm
    have hm2 : decide (0 ≤ z) = true := hm
    rw [if_pos h]
    clear h
    go_enter Try.func37, Try.ntmps37
    go_wp2_with (first
      | (go_at_call 43; (with_reducible refine (HL.out _).mono ?_); rintro e w5 ⟨rfl, e5⟩; subst w5)
      | (go_at_call 46; (with_reducible refine (HD.out _).mono ?_); rintro e w5 ⟨rfl, e5⟩; subst w5)
      | (go_at_call 48; (with_reducible refine (HI.out _).mono ?_); rintro e w5 ⟨rfl, e5⟩; subst w5))
    refine bodyPost_ret (results_tmp2 rfl _ _ _) rfl ?_
    exact ⟨rfl, rfl⟩
  · rw [decide_eq_false h] at hm
    have hm2 : decide (0 ≤ z) = false := hm
    rw [if_neg h]
    clear h
    go_enter Try.func37, Try.ntmps37
    go_wp2_with (first
      | (go_at_call 43; (with_reducible refine (HL.out _).mono ?_); rintro e w5 ⟨rfl, e5⟩; subst w5)
      | (go_at_call 46; (with_reducible refine (HD.out _).mono ?_); rintro e w5 ⟨rfl, e5⟩; subst w5)
      | (go_at_call 48; (with_reducible refine (HI.out _).mono ?_); rintro e w5 ⟨rfl, e5⟩; subst w5))
    refine bodyPost_ret (results_tmp2 rfl _ _ _) rfl ?_
    exact ⟨rfl, rfl⟩
theorem form2_any (s : ByteArray) (w : World) : Calls Try.prog 49 #[.string s] w fun e w' => e = .returned (.int .i64 1) ∧ w' = w := by
  go_enter Try.func49, Try.ntmps49
  go_wp2
  go_ret
  exact ⟨rfl, rfl⟩
theorem form3_any (s : ByteArray) (w : World) : Calls Try.prog 50 #[.string s] w fun e w' => e = .returned (.int .i64 0) ∧ w' = w := by
  go_enter Try.func50, Try.ntmps50
  go_wp2
  go_ret
  exact ⟨rfl, rfl⟩
theorem fst_let {b : Nat} {t : List Nat} (h : isLet b = true) : fstW (b :: t) = (0, capN 32 (runN isNam (b :: t))) := by rw [fstW, if_pos h]
theorem fst_dig {b : Nat} {t : List Nat} (h0 : isLet b = false) (h : isDig b = true) : fstW (b :: t) = (1, capN 4 (runN isDig (b :: t))) := by rw [fstW, if_neg (by rw [h0]; decide), if_pos h]
theorem fst_slash {b : Nat} {t : List Nat} (h0 : isLet b = false) (h1 : isDig b = false) (h : b = 47) : fstW (b :: t) = (2, slN false 1 t) := by rw [fstW, if_neg (by rw [h0]; decide), if_neg (by rw [h1]; decide), if_pos h]
theorem fst_mark {b : Nat} {t : List Nat} (h0 : isLet b = false) (h1 : isDig b = false) (h2 : ¬ b = 47) (h : b = 58 ∨ b = 124 ∨ b = 59) : fstW (b :: t) = (3, 1) := by rw [fstW, if_neg (by rw [h0]; decide), if_neg (by rw [h1]; decide), if_neg h2, if_pos h]
theorem fst_none {b : Nat} {t : List Nat} (h0 : isLet b = false) (h1 : isDig b = false) (h2 : ¬ b = 47) (h : ¬ (b = 58 ∨ b = 124 ∨ b = 59)) : fstW (b :: t) = (0, 0) := by rw [fstW, if_neg (by rw [h0]; decide), if_neg (by rw [h1]; decide), if_neg h2, if_neg h]
theorem run_drawn {w W : World} {m : Nat} {f : Value} (h : ∃ n, W = (runW w m f).drewN n) : Below w.heap.size w W := by
  obtain ⟨n, rfl⟩ := h
  exact below_drewN (runW_below w m f) n
set_option maxHeartbeats 4000000 in
theorem first_any (s : ByteArray) (l : List Nat) (hs : bytesOf s = l) (hsz : s.size < 1000000) (w : World) :
    Calls Try.prog 26 #[.string s] w fun e w' => e = .returned (.tuple #[.int .i64 ((fstW l).1 : Nat), .int .i64 ((fstW l).2 : Nat)]) ∧ Hid (Below w.heap.size w w') := by
  have hl : l.length = s.size := by rw [← hs, bytesOf_len]
  by_cases h0 : s.size = 0
  · have hs0 : s = ⟨#[]⟩ := by
      apply ByteArray.ext
      exact Array.eq_empty_of_size_eq_zero h0
    have hl0 : l = [] := List.eq_nil_of_length_eq_zero (by omega)
    subst hl0
    clear hs hl h0 hsz
    subst hs0
    go_enter Try.func26, Try.ntmps26
    go_wp2
    refine bodyPost_ret (results_tmp2 rfl _ _ _) rfl ?_
    exact ⟨rfl, Lib.hid (Below.refl _ _)⟩
  · have h1 : 0 < s.size := by omega
    have hne : (s.toList == (⟨#[]⟩ : ByteArray).toList) = false := by
      rw [beq_eq_false_iff_ne]
      intro e
      rw [Lib.toList_data, Lib.toList_data] at e
      rw [Lib.size_eq, e] at h0
      exact h0 rfl
    have hne2 : s.toList.isEmpty = false := by
      rw [Lib.toList_data]
      cases e : s.data.toList with
      | nil => rw [Lib.size_eq, e] at h0; exact absurd rfl h0
      | cons => rfl
    obtain ⟨hl0, hx⟩ := get_nat hs h1
    obtain ⟨t, ht⟩ : ∃ t, l = s[0].toNat :: t := by
      cases l with
      | nil => simp at hl0
      | cons b t => exact ⟨t, by rw [← hx]; rfl⟩
    have hb : s[0].toNat < 256 := s[0].toNat_lt
    cases hL : isLet s[0].toNat
    · cases hD : isDig s[0].toNat
      · by_cases h47 : s[0].toNat = 47
        · have HV := Lib.hid (fst_slash (t := t) hL hD h47)
          rw [← ht] at HV
          have HF := Lib.hid (fun W => form_slash s[0].toNat hL hD h47 W)
          have HS := Lib.hid (fun W => slash_any s l hs hsz W)
          have HT : Hid (l.drop 1 = t) := Lib.hid (by rw [ht]; rfl)
          rw [HT.out] at HS
          clear hs hl h0 hl0 hx ht hb hL hD h47 hsz
          go_enter Try.func26, Try.ntmps26
          go_wp2_with (first
            | (go_at_call 37; (with_reducible refine (HF.out _).mono ?_); rintro e w5 ⟨rfl, e5⟩; subst w5)
            | (go_at_call 47; (with_reducible refine (HS.out _).mono ?_); rintro e w5 ⟨rfl, e5⟩; subst w5))
          refine bodyPost_ret (results_tmp2 rfl _ _ _) rfl ?_
          exact ⟨by rw [HV.out]; rfl, Lib.hid (Below.refl _ _)⟩
        · have HF := Lib.hid (fun W => form_rest s[0].toNat hb hL hD h47 W)
          by_cases hm : s[0].toNat = 58 ∨ s[0].toNat = 124 ∨ s[0].toNat = 59
          · have HV := Lib.hid (fst_mark (t := t) hL hD h47 hm)
            rw [← ht] at HV
            simp only [if_pos hm] at HF
            have H2 := Lib.hid (fun W => form2_any s W)
            clear hs hl h0 hl0 hx ht hb hL hD h47 hsz hm
            go_enter Try.func26, Try.ntmps26
            go_wp2_with (first
              | (go_at_call 37; (with_reducible refine (HF.out _).mono ?_); rintro e w5 ⟨rfl, e5⟩; subst w5)
              | (go_at_call 49; (with_reducible refine (H2.out _).mono ?_); rintro e w5 ⟨rfl, e5⟩; subst w5))
            refine bodyPost_ret (results_tmp2 rfl _ _ _) rfl ?_
            exact ⟨by rw [HV.out]; rfl, Lib.hid (Below.refl _ _)⟩
          · have HV := Lib.hid (fst_none (t := t) hL hD h47 hm)
            rw [← ht] at HV
            simp only [if_neg hm] at HF
            have H2 := Lib.hid (fun W => form3_any s W)
            clear hs hl h0 hl0 hx ht hb hL hD h47 hsz hm
            go_enter Try.func26, Try.ntmps26
            go_wp2_with (first
              | (go_at_call 37; (with_reducible refine (HF.out _).mono ?_); rintro e w5 ⟨rfl, e5⟩; subst w5)
              | (go_at_call 50; (with_reducible refine (H2.out _).mono ?_); rintro e w5 ⟨rfl, e5⟩; subst w5))
            refine bodyPost_ret (results_tmp2 rfl _ _ _) rfl ?_
            exact ⟨by rw [HV.out]; rfl, Lib.hid (Below.refl _ _)⟩
      · have HV := Lib.hid (fst_dig (t := t) hL hD)
        rw [← ht] at HV
        have HF := Lib.hid (form_dig s[0].toNat hL hD w)
        have HR := Lib.hid (run1_dig (w.heap.size + 1) w.heap.size 4 s l hs hsz (runW w 4 (.func (.func 46) #[] #[])) (runW_of _ _ _) (runW_most _ _ _))
        clear hs hl h0 hl0 hx ht hb hL hD hsz
        generalize capN 4 (runN isDig l) = n at *
        go_enter Try.func26, Try.ntmps26
        go_wp2_with (first
          | (go_at_call 37; (with_reducible refine HF.out.mono ?_); rintro e w5 ⟨rfl, e5⟩; subst w5)
          | (go_at_call 57; (with_reducible refine HR.out.mono ?_); rintro e w6 ⟨rfl, e6⟩))
        refine bodyPost_ret (results_tmp2 rfl _ _ _) rfl ?_
        exact ⟨by rw [HV.out]; rfl, Lib.hid (run_drawn e6)⟩
    · have HV := Lib.hid (fst_let (t := t) hL)
      rw [← ht] at HV
      have HF := Lib.hid (form_let s[0].toNat hL w)
      have HR := Lib.hid (run1_nam (w.heap.size + 1) w.heap.size 32 s l hs hsz (runW w 32 (.func (.func 45) #[] #[])) (runW_of _ _ _) (runW_most _ _ _))
      clear hs hl h0 hl0 hx ht hb hL hsz
      generalize capN 32 (runN isNam l) = n at *
      go_enter Try.func26, Try.ntmps26
      go_wp2_with (first
        | (go_at_call 37; (with_reducible refine HF.out.mono ?_); rintro e w5 ⟨rfl, e5⟩; subst w5)
        | (go_at_call 57; (with_reducible refine HR.out.mono ?_); rintro e w6 ⟨rfl, e6⟩))
      refine bodyPost_ret (results_tmp2 rfl _ _ _) rfl ?_
      exact ⟨by rw [HV.out]; rfl, Lib.hid (run_drawn e6)⟩
end Go.Proofs.Ytplgnbedcjanhaa
