/- Contracts: where the reference goes. -/
import Derived.Test.YtiikmpgadmmjeaaXD
set_option maxRecDepth 100000
namespace Go.Proofs.Ytiikmpgadmmjeaa
open Go.RowKit

set_option maxHeartbeats 2000000 in
theorem rnext_any (v : Value) (m : List Sta) (s : Int) (c : Nat) (w : World) (hv : MachAt w v m) (hl : ∀ s ∈ m, s.arcs.length < 9223372036854775808) (hm : Mays m) :
    Calls Try.prog 32 #[v, .int .i64 s, .int .u8 c] w fun e w' => e = .returned (.int .i64 (nextS m s c)) ∧ w' = w := by
  obtain ⟨av, cv, rfl⟩ := hv.len
  by_cases h0 : 0 ≤ s
  · have d1 : decide (s < 0) = false := decide_eq_false (by omega)
    by_cases h1 : s < m.length
    · have d2 : decide (s ≥ (m.length : Int)) = false := decide_eq_false (by omega)
      have d3 : decide ((m.length : Int) ≤ s) = false := decide_eq_false (by omega)
      obtain ⟨k, rfl⟩ : ∃ k : Nat, s = k := ⟨s.toNat, by omega⟩
      have hk : k < m.length := by omega
      have d4 : decide (m.length ≤ k) = false := decide_eq_false (by omega)
      obtain ⟨b, o, va, rfl, e0, e1, ha⟩ := hv.at rfl hk
      have HN := Lib.hid (show nextS m k c = firstTo m[k].arcs c from by
        unfold nextS
        rw [dif_pos ⟨by omega, by simpa using hk⟩]
        simp)
      have hls := hl m[k] (List.getElem_mem hk)
      have hms := (hm m[k] (List.getElem_mem hk)).2
      have HMS := Lib.hid hms
      clear hv hl hm e0 hms
      generalize m[k].arcs = l at *
      obtain ⟨aa, ca, rfl⟩ := ha.len
      have HA := Lib.hid ha
      clear ha h1
      go_enter Try.func32, Try.ntmps32
      go_wp2
      go_loopw [8] (fun z wr => ∃ i : Nat, z = .int .i64 i ∧ i ≤ l.length ∧ Hid (∀ j (h : j < l.length), j < i → l[j].has c = false) ∧ wr = w) (fun z _ => l.length - (intOf z).toNat)
      case atStart => exact ⟨0, rfl, Nat.zero_le _, Lib.hid (fun _ _ h => by omega), rfl⟩
      case round =>
        obtain ⟨i, rfl, hi, HF, rfl⟩ := hrel
        by_cases hlt : i < l.length
        · have hdd : decide ((i : Int) < l.length) = true := decide_eq_true (by omega)
          obtain ⟨b2, o2, rfl, a0, a1, a2⟩ := HA.out.at rfl hlt
          have HYES := Lib.hid (fun hb => firstTo_at (b := c) hlt HF.out hb)
          have HNO := Lib.hid (show l[i].has c = false → ∀ j (h : j < l.length), j < i + 1 → l[j].has c = false from fun h j hj hji => by
            rcases Nat.lt_succ_iff_lt_or_eq.1 hji with h1 | rfl
            · exact HF.out j hj h1
            · exact h)
          clear HF
          generalize l[i] = x at *
          by_cases h2 : x.lo ≤ c
          · have f1 : decide ((x.lo : Int) ≤ c) = true := decide_eq_true (by omega)
            by_cases h3 : c ≤ x.hi
            · have f2 : decide ((c : Int) ≤ x.hi) = true := decide_eq_true (by omega)
              have HR := Lib.hid (HYES.out (by unfold Arc3.has; rw [decide_eq_true h2, decide_eq_true h3]; rfl))
              clear HYES HNO
              go_wp2
              go_ret
              exact ⟨by rw [HN.out, HR.out]; rfl, rfl⟩
            · have f2 : decide ((c : Int) ≤ x.hi) = false := decide_eq_false (by omega)
              have f3 : decide (c ≤ x.hi) = false := decide_eq_false h3
              have HR := Lib.hid (HNO.out (by unfold Arc3.has; rw [f3, Bool.and_false]))
              clear HYES HNO h3
              go_wp2
              exact ⟨⟨i + 1, rfl, hlt, HR, trivial⟩, by simp only [intOf]; omega⟩
          · have f1 : decide ((x.lo : Int) ≤ c) = false := decide_eq_false (by omega)
            have f3 : decide (x.lo ≤ c) = false := decide_eq_false h2
            have HR := Lib.hid (HNO.out (by unfold Arc3.has; rw [f3, Bool.false_and]))
            clear HYES HNO h2
            go_wp2
            exact ⟨⟨i + 1, rfl, hlt, HR, trivial⟩, by simp only [intOf]; omega⟩
        · have hdd : decide ((i : Int) < l.length) = false := decide_eq_false (by omega)
          have hdn : decide (i < l.length) = false := decide_eq_false hlt
          have HR := Lib.hid (show firstTo l c = -1 from firstTo_none fun j hj _ => HF.out j hj (by omega))
          clear hlt HF
          go_wp2
          go_ret
          exact ⟨by rw [HN.out, HR.out]; rfl, rfl⟩
    · have d2 : decide (s ≥ (m.length : Int)) = true := decide_eq_true (by omega)
      have d3 : decide ((m.length : Int) ≤ s) = true := decide_eq_true (by omega)
      have HN := Lib.hid (show nextS m s c = -1 from by unfold nextS; rw [dif_neg (by omega)])
      clear h1 hv hl hm
      go_enter Try.func32, Try.ntmps32
      go_wp2
      go_ret
      exact ⟨by rw [HN.out]; rfl, rfl⟩
  · have d1 : decide (s < 0) = true := decide_eq_true (by omega)
    have HN := Lib.hid (show nextS m s c = -1 from by unfold nextS; rw [dif_neg (by omega)])
    clear h0 hv hl hm
    go_enter Try.func32, Try.ntmps32
    go_wp2
    go_ret
    exact ⟨by rw [HN.out]; rfl, rfl⟩
set_option maxHeartbeats 2000000 in
theorem rrun_any (v : Value) (m : List Sta) (s : ByteArray) (w : World) (hv : MachAt w v m) (hl : ∀ s ∈ m, s.arcs.length < 9223372036854775808) (hm : Mays m) (hs : s.size < 9223372036854775808) :
    Calls Try.prog 22 #[v, .string s] w fun e w' => e = .returned (.int .i64 (runS m (bytesOf s))) ∧ w' = w := by
  have HNX := Lib.hid (fun st (c : Nat) => rnext_any v m st c w hv hl hm)
  obtain ⟨av, cv, rfl⟩ := hv.len
  obtain ⟨s0, hs0⟩ : ∃ s0 : Int, (if m.length = 0 then -1 else 0) = s0 := ⟨_, rfl⟩
  have HS0 := Lib.hid hs0
  have HRS := Lib.hid (show ∀ i (h : i < s.size), runFrom m s0 ((bytesOf s).take (i + 1)) = nextS m (runFrom m s0 ((bytesOf s).take i)) s[i].toNat from fun i h => by
    rw [run_take (by rw [bytesOf_len]; exact h), bytesOf_get s i h])
  have HFN := Lib.hid (show runS m (bytesOf s) = runFrom m s0 ((bytesOf s).take s.size) from by
    unfold runS; rw [hs0, List.take_of_length_le (by rw [bytesOf_len]; omega)])
  clear hv hl hm hs0
  go_enter Try.func22, Try.ntmps22
  by_cases h0 : m.length = 0
  · have d0 : ((m.length : Int) == 0) = true := by simp [h0]
    have d1 : (m.length == 0) = true := by simp [h0]
    obtain rfl : s0 = -1 := by have := HS0.out; rw [if_pos h0] at this; exact this.symm
    clear h0
    go_wp2
    clear d0 d1
    go_loopw [5, 6] (fun x z wr => ∃ k : Nat, z = .int .i64 k ∧ k ≤ s.size ∧ x = .int .i64 (runFrom m (-1) ((bytesOf s).take k)) ∧ wr = w) (fun _ z _ => s.size - (intOf z).toNat)
    case atStart => exact ⟨0, rfl, Nat.zero_le _, rfl, rfl⟩
    case round =>
      obtain ⟨k, rfl, hk, rfl, rfl⟩ := hrel
      by_cases hlt : k < s.size
      · have hdd : decide ((k : Int) < s.size) = true := decide_eq_true (by omega)
        have HN1 := Lib.hid (HNX.out (runFrom m (-1) ((bytesOf s).take k)) s[k].toNat)
        have HR1 := Lib.hid (HRS.out k hlt)
        generalize runFrom m (-1) ((bytesOf s).take k) = st at *
        go_wp2_with (go_at_call 32; refine HN1.out.mono ?_; rintro e w5 ⟨rfl, e5⟩; subst e5)
        exact ⟨⟨k + 1, rfl, hlt, by rw [HR1.out], trivial⟩, by simp only [intOf]; omega⟩
      · have hdd : decide ((k : Int) < s.size) = false := decide_eq_false (by omega)
        have hdn : decide (k < s.size) = false := decide_eq_false hlt
        obtain rfl : k = s.size := by omega
        generalize runFrom m (-1) ((bytesOf s).take s.size) = st at *
        go_wp2
        go_ret
        exact ⟨by rw [HFN.out]; rfl, rfl⟩
  · have d0 : ((m.length : Int) == 0) = false := by rw [beq_eq_false_iff_ne]; omega
    have d1 : (m.length == 0) = false := by rw [beq_eq_false_iff_ne]; omega
    obtain rfl : s0 = 0 := by have := HS0.out; rw [if_neg h0] at this; exact this.symm
    clear h0
    go_wp2
    clear d0 d1
    go_loopw [5, 6] (fun x z wr => ∃ k : Nat, z = .int .i64 k ∧ k ≤ s.size ∧ x = .int .i64 (runFrom m 0 ((bytesOf s).take k)) ∧ wr = w) (fun _ z _ => s.size - (intOf z).toNat)
    case atStart => exact ⟨0, rfl, Nat.zero_le _, rfl, rfl⟩
    case round =>
      obtain ⟨k, rfl, hk, rfl, rfl⟩ := hrel
      by_cases hlt : k < s.size
      · have hdd : decide ((k : Int) < s.size) = true := decide_eq_true (by omega)
        have HN1 := Lib.hid (HNX.out (runFrom m 0 ((bytesOf s).take k)) s[k].toNat)
        have HR1 := Lib.hid (HRS.out k hlt)
        generalize runFrom m 0 ((bytesOf s).take k) = st at *
        go_wp2_with (go_at_call 32; refine HN1.out.mono ?_; rintro e w5 ⟨rfl, e5⟩; subst e5)
        exact ⟨⟨k + 1, rfl, hlt, by rw [HR1.out], trivial⟩, by simp only [intOf]; omega⟩
      · have hdd : decide ((k : Int) < s.size) = false := decide_eq_false (by omega)
        have hdn : decide (k < s.size) = false := decide_eq_false hlt
        obtain rfl : k = s.size := by omega
        generalize runFrom m 0 ((bytesOf s).take s.size) = st at *
        go_wp2
        go_ret
        exact ⟨by rw [HFN.out]; rfl, rfl⟩
end Go.Proofs.Ytiikmpgadmmjeaa
