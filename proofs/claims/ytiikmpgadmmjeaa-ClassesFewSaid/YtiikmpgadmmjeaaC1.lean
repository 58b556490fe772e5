/- The contract of dfa.Next. -/
import Derived.Test.YtiikmpgadmmjeaaC0
set_option maxRecDepth 100000
namespace Go.Proofs.Ytiikmpgadmmjeaa
open Go.RowKit

set_option maxHeartbeats 2000000 in
theorem dnext_any (v : Value) (m : List Sta) (s : Int) (c : Nat) (w : World) (hv : MachAt w v m) (hl : ∀ s ∈ m, s.arcs.length < 9223372036854775808) (hm : Mays m) :
    Calls Try.prog 31 #[v, .int .i64 s, .int .u8 c] w fun e w' => e = .returned (.int .i64 (nextS m s c)) ∧ Below w.heap.size w w' := by
  obtain ⟨av, cv, rfl⟩ := hv.len
  by_cases h0 : 0 ≤ s ∧ s < m.length
  · obtain ⟨k, rfl⟩ : ∃ k : Nat, s = k := ⟨s.toNat, by omega⟩
    have hk : k < m.length := by omega
    have d0 : (decide ((0 : Int) ≤ (k : Int)) && decide ((k : Int) < (m.length : Int))) = true := by simp; omega
    have HIS := Lib.hid (show Calls Try.prog 41 #[.int .i64 k, .int .i64 m.length] w fun e w' => e = .returned (.bool true) ∧ w' = w from by
      have := isState_any (k : Int) (m.length : Int) w
      rw [d0] at this; exact this)
    obtain ⟨b, o, va, rfl, e0, e1, ha⟩ := hv.at rfl hk
    have HN := Lib.hid (show nextS m k c = firstTo m[k].arcs c from by
      unfold nextS
      rw [dif_pos ⟨by omega, by simpa using hk⟩]
      simp)
    have hls := hl m[k] (List.getElem_mem hk)
    have hms := (hm m[k] (List.getElem_mem hk)).2
    have HMS := Lib.hid hms
    have hki : (k : Int) < m.length := by omega
    clear hv hl hm e0 hms d0 h0
    generalize m[k].arcs = l at *
    obtain ⟨aa, ca, rfl⟩ := ha.len
    have HA := Lib.hid ha
    clear ha
    obtain ⟨B0, hB⟩ : ∃ B, w.heap.size = B := ⟨_, rfl⟩
    have HB := Lib.hid hB
    rw [hB]
    clear hB
    go_enter Try.func31, Try.ntmps31
    go_wp2_with (go_at_call 41; (with_reducible refine HIS.out.mono ?_); rintro e w5 ⟨rfl, e5⟩; subst w5)
    clear e1 HIS
    go_loopw [20] (fun z wr => ∃ i : Nat, z = .int .i64 i ∧ i ≤ l.length ∧ Hid (∀ j (h : j < l.length), j < i → l[j].has c = false) ∧ Hid (Below B0 w wr)) (fun z _ => l.length - (intOf z).toNat)
    case atStart => exact ⟨0, rfl, Nat.zero_le _, Lib.hid (fun _ _ h => by omega), Lib.hid (Below.refl _ _)⟩
    case round =>
      obtain ⟨i, rfl, hi, HF, HBW⟩ := hrel
      by_cases hlt : i < l.length
      · have hdd : decide ((i : Int) < l.length) = true := decide_eq_true (by omega)
        obtain ⟨b2, o2, rfl, a0, a1, a2⟩ := HA.out.at rfl hlt
        have HYES := Lib.hid (fun hb => firstTo_at (b := c) hlt HF.out hb)
        have HNO := Lib.hid (show l[i].has c = false → ∀ j (h : j < l.length), j < i + 1 → l[j].has c = false from fun h j hj hji => by
          rcases Nat.lt_succ_iff_lt_or_eq.1 hji with h1 | rfl
          · exact HF.out j hj h1
          · exact h)
        clear HF
        generalize l[i] = x at *
        have hbw := HBW.out
        rw [← HB.out] at hbw
        replace a0 := cell_below hbw a0
        replace a1 := cell_below hbw a1
        replace a2 := cell_below hbw a2
        have HBN := Lib.hid (HBW.out.trans ((new_one wr (.cells #[.int .u8 x.lo, .int .u8 x.hi, .int .i64 x.dest] 50)).mono (show B0 ≤ wr.heap.size from by rw [← HB.out]; exact hbw.size)))
        clear hbw HBW
        by_cases h2 : x.lo ≤ c
        · have f1 : decide ((x.lo : Int) ≤ c) = true := decide_eq_true (by omega)
          by_cases h3 : c ≤ x.hi
          · have f2 : decide ((c : Int) ≤ x.hi) = true := decide_eq_true (by omega)
            have HR := Lib.hid (HYES.out (by unfold Arc3.has; rw [decide_eq_true h2, decide_eq_true h3]; rfl))
            clear HYES HNO
            go_wp2
            go_ret
            exact ⟨by rw [HN.out, HR.out]; rfl, HBN.out⟩
          · have f2 : decide ((c : Int) ≤ x.hi) = false := decide_eq_false (by omega)
            have f3 : decide (c ≤ x.hi) = false := decide_eq_false h3
            have HR := Lib.hid (HNO.out (by unfold Arc3.has; rw [f3, Bool.and_false]))
            clear HYES HNO
            go_wp2
            exact ⟨⟨i + 1, rfl, hlt, HR, HBN⟩, by simp only [intOf]; omega⟩
        · have f1 : decide ((x.lo : Int) ≤ c) = false := decide_eq_false (by omega)
          have f3 : decide (x.lo ≤ c) = false := decide_eq_false h2
          have HR := Lib.hid (HNO.out (by unfold Arc3.has; rw [f3, Bool.false_and]))
          clear HYES HNO h2
          go_wp2
          exact ⟨⟨i + 1, rfl, hlt, HR, HBN⟩, by simp only [intOf]; omega⟩
      · have hdd : decide ((i : Int) < l.length) = false := decide_eq_false (by omega)
        have hdn : decide (i < l.length) = false := decide_eq_false hlt
        have HR := Lib.hid (show firstTo l c = -1 from firstTo_none fun j hj _ => HF.out j hj (by omega))
        clear hlt HF
        go_wp2
        go_ret
        exact ⟨by rw [HN.out, HR.out]; rfl, HBW.out⟩
  · have d0 : (decide ((0 : Int) ≤ s) && decide (s < (m.length : Int))) = false := by
      rw [Bool.and_eq_false_iff, decide_eq_false_iff_not, decide_eq_false_iff_not]; omega
    have HIS := Lib.hid (show Calls Try.prog 41 #[.int .i64 s, .int .i64 m.length] w fun e w' => e = .returned (.bool false) ∧ w' = w from by
      have := isState_any s (m.length : Int) w
      rw [d0] at this; exact this)
    have HN := Lib.hid (show nextS m s c = -1 from by unfold nextS; rw [dif_neg (by omega)])
    clear h0 hv hl hm d0
    go_enter Try.func31, Try.ntmps31
    go_wp2_with (go_at_call 41; (with_reducible refine HIS.out.mono ?_); rintro e w5 ⟨rfl, e5⟩; subst w5)
    go_ret
    exact ⟨by rw [HN.out]; rfl, Below.refl _ _⟩
end Go.Proofs.Ytiikmpgadmmjeaa
