/- The walk of the law WordsLine. -/
import Derived.Test.YtplgnbedcjanhaaBr
set_option maxRecDepth 100000
namespace Go.Proofs.Ytplgnbedcjanhaa
open Go.RowKit

set_option maxHeartbeats 8000000 in
theorem line_law (s : ByteArray) (w : World) : Calls Try.prog 6 #[.string s] w fun e w' => e = .returned (.bool true) ∧ Below w.heap.size w w' := by
  have HA := Lib.hid (awake_any w)
  by_cases hsz : s.size ≤ 200
  · have hd : decide ((s.size : Int) > 200) = false := decide_eq_false (by omega)
    have hd2 : decide ((200 : Int) < s.size) = false := decide_eq_false (by omega)
    have HL : Hid (∀ (k : Nat) (z : Int) W, k ≤ s.size → min (max z 0) (s.size : Int) = k → Calls Try.prog 12 #[.string s, .int .i64 z] W fun e w' => e = .returned (.tuple #[.int .i64 ((lineL ((bytesOf s).take k)).1 : Nat), .int .i64 ((lineL ((bytesOf s).take k)).2 : Nat)]) ∧ w' = W) := Lib.hid (fun k z W h1 h2 => line_any s (bytesOf s) rfl (by omega) z k h1 h2 W)
    have HB : Hid (∀ k, (lineL ((bytesOf s).take k)).1 ≤ 1 + k ∧ (lineL ((bytesOf s).take k)).2 ≤ 1 + k) := Lib.hid (by
      have h : ∀ (l : List Nat) (p : Nat × Nat), (l.foldl lineS p).1 ≤ p.1 + l.length ∧ ((l.foldl lineS p).2 ≤ p.2 + l.length ∨ (l.foldl lineS p).2 ≤ 1 + l.length) := by
        intro l
        induction l with
        | nil => intro p; exact ⟨Nat.le_refl _, .inl (Nat.le_refl _)⟩
        | cons b l ih =>
          intro p
          rw [List.foldl_cons]
          have := ih (lineS p b)
          unfold lineS at this ⊢
          by_cases hb : b = 10
          · simp only [hb, if_true] at this ⊢
            simp only [List.length_cons]
            omega
          · simp only [if_neg hb] at this ⊢
            simp only [List.length_cons]
            omega
      intro k
      have h1 := h ((bytesOf s).take k) (1, 1)
      have h2 : ((bytesOf s).take k).length ≤ k := by rw [List.length_take]; omega
      unfold lineL
      simp only at h1
      omega)
    go_enter Try.func6, Try.ntmps6
    go_wp2_with (go_at_call 7; (with_reducible refine HA.out.mono ?_); rintro e w1 ⟨rfl, hb1⟩)
    go_loopw [4] (fun z wr => ∃ k : Nat, z = .int .i64 k ∧ k ≤ s.size ∧ wr = w1) (fun z _ => s.size - (intOf z).toNat)
    case atStart => exact ⟨0, rfl, Nat.zero_le _, rfl⟩
    case round =>
      obtain ⟨k, rfl, hk, rfl⟩ := hrel
      by_cases hlt : k < s.size
      · have hd3 : decide ((k : Int) < s.size) = true := decide_eq_true (by omega)
        have hki : (k : Int) < s.size := by omega
        have HL1 := Lib.hid (HL.out k k wr hk (by omega))
        have HL2 := Lib.hid (HL.out (k + 1) ((k : Int) + 1) wr (by omega) (by omega))
        have hkl : k < (bytesOf s).length := by rw [bytesOf_len]; exact hlt
        have hT := lineL_take hkl
        rw [bytesOf_get s k hlt hkl] at hT
        have hbd := HB.out k
        obtain ⟨p, q, hpq⟩ : ∃ p q, lineL ((bytesOf s).take k) = (p, q) := ⟨_, _, rfl⟩
        rw [hpq] at hT hbd HL1
        dsimp only at hbd HL1
        by_cases h10 : s[k].toNat = 10
        · have e10 : ((s[k].toNat : Int) == 10) = true := eq_yes (c := 10) h10
          have hT2 : lineL ((bytesOf s).take (k + 1)) = (p + 1, 1) := by rw [hT]; unfold lineS; rw [if_pos h10]
          rw [hT2] at HL2
          have HL2 : Hid (Calls Try.prog 12 #[.string s, .int .i64 ((k : Int) + 1)] wr fun e w' => e = .returned (.tuple #[.int .i64 ((p : Int) + 1), .int .i64 1]) ∧ w' = wr) := HL2
          have f1 : (((p : Int) + 1) != ((p : Int) + 1)) = false := by rw [bne_self_eq_false]
          have f2 : ((s[k].toNat : Int) != 10) = false := ne_no (c := 10) h10
          clear hT hT2 h10 hkl hpq
          go_upto_region 10 with (go_at_call 12; (with_reducible refine HL1.out.mono ?_); rintro e w5 ⟨rfl, h9⟩; subst w5)
          go_upto_region 11 with (go_at_call 12; (with_reducible refine HL2.out.mono ?_); rintro e w5 ⟨rfl, h9⟩; subst w5)
          go_wp2
          go_roundw
          case rel => exact ⟨k + 1, by simp, hlt, trivial⟩
          case measure => simp only [intOf]; omega
        · have e10 : ((s[k].toNat : Int) == 10) = false := eq_no (c := 10) h10
          have hT2 : lineL ((bytesOf s).take (k + 1)) = (p, q + 1) := by rw [hT]; unfold lineS; rw [if_neg h10]
          rw [hT2] at HL2
          have HL2 : Hid (Calls Try.prog 12 #[.string s, .int .i64 ((k : Int) + 1)] wr fun e w' => e = .returned (.tuple #[.int .i64 p, .int .i64 ((q : Int) + 1)]) ∧ w' = wr) := HL2
          have f1 : (((q : Int) + 1) != ((q : Int) + 1)) = false := by rw [bne_self_eq_false]
          have f3 : ((p : Int) != (p : Int)) = false := by rw [bne_self_eq_false]
          have f2 : ((s[k].toNat : Int) != 10) = true := ne_yes (c := 10) h10
          clear hT hT2 h10 hkl hpq
          go_upto_region 10 with (go_at_call 12; (with_reducible refine HL1.out.mono ?_); rintro e w5 ⟨rfl, h9⟩; subst w5)
          go_upto_region 11 with (go_at_call 12; (with_reducible refine HL2.out.mono ?_); rintro e w5 ⟨rfl, h9⟩; subst w5)
          go_wp2
          go_roundw
          case rel => exact ⟨k + 1, by simp, hlt, trivial⟩
          case measure => simp only [intOf]; omega
      · obtain rfl : k = s.size := by omega
        have hd3 : decide ((s.size : Int) < s.size) = false := by simp
        have HL0 : Hid (Calls Try.prog 12 #[.string s, .int .i64 0] wr fun e w' => e = .returned (.tuple #[.int .i64 1, .int .i64 1]) ∧ w' = wr) := Lib.hid (HL.out 0 0 wr (Nat.zero_le _) (by omega))
        have HL1 := Lib.hid (HL.out s.size s.size wr (Nat.le_refl _) (by omega))
        have HL2 := Lib.hid (HL.out s.size ((s.size : Int) + 7) wr (Nat.le_refl _) (by omega))
        generalize lineL ((bytesOf s).take s.size) = pq at *
        obtain ⟨p, q⟩ := pq
        dsimp only at HL1 HL2
        have e1 : ((p : Int) == (p : Int)) = true := eq_yes rfl
        have e2 : ((q : Int) == (q : Int)) = true := eq_yes rfl
        go_upto_region 14 with (go_at_call 12; (with_reducible refine HL0.out.mono ?_); rintro e w5 ⟨rfl, h9⟩; subst w5)
        go_upto_region 15 with (go_at_call 12; (with_reducible refine HL1.out.mono ?_); rintro e w5 ⟨rfl, h9⟩; subst w5)
        go_upto_region 16 with (go_at_call 12; (with_reducible refine HL2.out.mono ?_); rintro e w5 ⟨rfl, h9⟩; subst w5)
        go_wp2
        go_ret
        exact ⟨rfl, hb1.out⟩
  · have hd : decide ((s.size : Int) > 200) = true := decide_eq_true (by omega)
    have hd2 : decide ((200 : Int) < s.size) = true := decide_eq_true (by omega)
    go_enter Try.func6, Try.ntmps6
    go_wp2_with (go_at_call 7; (with_reducible refine HA.out.mono ?_); rintro e w1 ⟨rfl, hb1⟩)
    go_ret
    exact ⟨rfl, hb1.out⟩
end Go.Proofs.Ytplgnbedcjanhaa
