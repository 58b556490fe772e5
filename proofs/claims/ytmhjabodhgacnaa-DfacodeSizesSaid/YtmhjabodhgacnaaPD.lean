/- Contract: Value. -/
import Derived.Test.YtmhjabodhgacnaaPC
import Derived.Lib.MinMax
set_option maxRecDepth 100000
namespace Go.Proofs.Ytmhjabodhgacnaa
open Go.RowKit

/-- Bytes that go on. -/
def OnB (l : List Nat) (k : Nat) : Prop := ∀ j (h : j < l.length), j < k → 128 ≤ l[j] ∧ l[j] < 256
theorem OnB.next {l : List Nat} {k : Nat} (h : OnB l k) (hk : k < l.length) (h1 : 128 ≤ l[k]) (h2 : l[k] < 256) : OnB l (k + 1) := fun j hj hlt => by
  by_cases e : j = k
  · subst e; exact ⟨h1, h2⟩
  · exact h j hj (by omega)
theorem drop_cons {l : List Nat} {k : Nat} (hk : k < l.length) : l.drop k = l[k] :: l.drop (k + 1) := List.drop_eq_getElem_cons hk
theorem valB_last {l : List Nat} {k : Nat} (h : OnB l k) (hk : k < l.length) (hx : l[k] < 128) (hz : ¬ (l[k] = 0 ∧ 0 < k)) (hk9 : k ≤ 9) (ho : ¬ (k = 9 ∧ 2 ≤ l[k])) : valB l = (lowG l k + l[k] * 128 ^ k, k + 1) := by
  apply valB_some
  · rw [vrd_low k l h (by omega), drop_cons hk, vrd, if_pos hx]
    simp only []
    rw [if_neg hz, Nat.mul_comm, Nat.add_comm 1 k]
  · have h1 := lowG_lt l k
    by_cases e : k = 9
    · subst e
      have : l[9] ≤ 1 := by omega
      have h2 := Nat.mul_le_mul_right (128 ^ 9) this
      have e9 : (128 : Nat) ^ 9 = 9223372036854775808 := by decide
      rw [e9] at h1 h2 ⊢
      omega
    · have h2 := Nat.mul_le_mul_right (128 ^ k) (show l[k] ≤ 127 by omega)
      have h3 : 128 ^ (k + 1) ≤ 128 ^ 9 := Nat.pow_le_pow_right (by omega) (by omega)
      have e9 : (128 : Nat) ^ 9 = 9223372036854775808 := by decide
      rw [Nat.pow_succ, e9] at h3
      omega
theorem valB_zero_last {l : List Nat} {k : Nat} (h : OnB l k) (hk : k < l.length) (hx : l[k] = 0) (h0 : 0 < k) : valB l = (0, 0) := by
  apply valB_none
  rw [vrd_low k l h (by omega), drop_cons hk, vrd, if_pos (by omega)]
  simp only []
  rw [if_pos ⟨hx, h0⟩]
theorem valB_far {l : List Nat} {k n q : Nat} (h : OnB l k) (hk : k ≤ l.length) (hv : vrd (l.drop k) = some (n, q)) (hn : 18446744073709551616 ≤ 128 ^ k * n) : valB l = (0, 0) := by
  have h1 := vrd_low k l h hk
  rw [hv] at h1
  simp only [] at h1
  by_cases hz : n = 0 ∧ 0 < k
  · rw [if_pos hz] at h1; exact valB_none h1
  · rw [if_neg hz] at h1; exact valB_over h1 (by omega)
theorem valB_out {l : List Nat} {k : Nat} (h : OnB l k) (hk : k ≤ l.length) (hv : vrd (l.drop k) = none) : valB l = (0, 0) := by
  apply valB_none
  rw [vrd_low k l h hk, hv]
theorem valB_wide {l : List Nat} (h : OnB l 9) (hk : 9 < l.length) (h2 : 2 ≤ l[9] % 128) (hx : l[9] < 256) : valB l = (0, 0) := by
  have e9 : (128 : Nat) ^ 9 = 9223372036854775808 := by decide
  cases hv : vrd (l.drop 9) with
  | none => exact valB_out h (by omega) hv
  | some p =>
    obtain ⟨n, q⟩ := p
    refine valB_far h (by omega) hv ?_
    rw [e9]
    rw [drop_cons hk, vrd] at hv
    by_cases hlt : l[9] < 128
    · rw [if_pos hlt] at hv
      simp only [Option.some.injEq, Prod.mk.injEq] at hv
      omega
    · rw [if_neg hlt] at hv
      split at hv
      · cases hv
      · split at hv
        · cases hv
        · simp only [Option.some.injEq, Prod.mk.injEq] at hv
          omega
theorem valB_end {l : List Nat} {k : Nat} (h : OnB l k) (hk : min l.length 10 = k) : valB l = (0, 0) := by
  by_cases e : k = l.length
  · refine valB_out h (by omega) ?_
    rw [e, List.drop_length]; rfl
  · have h10 : k = 10 := by omega
    subst h10
    have e10 : (128 : Nat) ^ 9 * 128 = 1180591620717411303424 := by decide
    have hl : 9 < l.length := by omega
    cases hv : vrd (l.drop 10) with
    | none => exact valB_out h (by omega) hv
    | some p =>
      obtain ⟨n, q⟩ := p
      by_cases hz : n = 0
      · apply valB_none
        rw [vrd_low 10 l h (by omega), hv]
        simp only []
        rw [if_pos ⟨hz, by omega⟩]
      · refine valB_far h (by omega) hv ?_
        rw [show (128 : Nat) ^ 10 = 128 ^ 9 * 128 from rfl, e10]
        omega
theorem pow_7 (k : Nat) : (2 : Nat) ^ (k * 7) = 128 ^ k := by rw [Nat.mul_comm, Nat.pow_mul]
/-- A group in its place. -/
theorem group_fits {x k : Nat} (hk : k ≤ 9) (h : ¬ (k = 9 ∧ 2 ≤ x % 128)) : IntKind.u64.wrap ((x : Int) % 128 * 2 ^ (k * 7)) = ((x % 128 * 128 ^ k : Nat) : Int) ∧ x % 128 * 128 ^ k < 18446744073709551616 := by
  have e9 : (128 : Nat) ^ 9 = 9223372036854775808 := by decide
  have hb : x % 128 * 128 ^ k < 18446744073709551616 := by
    by_cases e : k = 9
    · subst e
      have h2 := Nat.mul_le_mul_right (128 ^ 9) (show x % 128 ≤ 1 by omega)
      rw [e9] at h2 ⊢
      omega
    · have h2 := Nat.mul_le_mul_right (128 ^ k) (show x % 128 ≤ 127 by omega)
      have h3 : 128 ^ (k + 1) ≤ 128 ^ 9 := Nat.pow_le_pow_right (by omega) (by omega)
      rw [Nat.pow_succ, e9] at h3
      omega
  have h1 : ((x : Int) % 128 * 2 ^ (k * 7)) = ((x % 128 * 128 ^ k : Nat) : Int) := by
    rw [Int.natCast_mul, Int.natCast_emod, ← pow_7, Int.natCast_pow]
    rfl
  rw [h1, IntKind.wrap_u64]
  exact ⟨by omega, hb⟩
theorem group_yes {x k : Nat} (hk : k ≤ 9) (h : ¬ (k = 9 ∧ 2 ≤ x % 128)) : (IntKind.u64.wrap ((x : Int) % 128 * 2 ^ (k * 7)) / 2 ^ (k * 7) != (x : Int) % 128) = false := by
  rw [(group_fits hk h).1]
  have h2 : ((2 : Int) ^ (k * 7)) = ((128 ^ k : Nat) : Int) := by rw [← pow_7, Int.natCast_pow]; rfl
  rw [h2, ← Int.natCast_ediv, Nat.mul_div_cancel _ (Nat.pow_pos (by omega))]
  simp
theorem group_no {x k : Nat} (hk : k = 9) (h : 2 ≤ x % 128) : (IntKind.u64.wrap ((x : Int) % 128 * 2 ^ (k * 7)) / 2 ^ (k * 7) != (x : Int) % 128) = true := by
  subst hk
  have h2 : ((2 : Int) ^ (9 * 7)) = 9223372036854775808 := by decide
  rw [h2, IntKind.wrap_u64, bne_iff_ne]
  omega
theorem or_low {n g k : Nat} (hn : n < 128 ^ k) (hg : g * 128 ^ k < 18446744073709551616) (hk : k ≤ 9) : bits .or .u64 (n : Int) ((g * 128 ^ k : Nat) : Int) = ((n + g * 128 ^ k : Nat) : Int) := by
  have e9 : (128 : Nat) ^ 9 = 9223372036854775808 := by decide
  have h3 : 128 ^ k ≤ 128 ^ 9 := Nat.pow_le_pow_right (by omega) hk
  rw [u64_or_nat _ _ (by omega) hg]
  congr 1
  rw [← pow_7] at hn ⊢
  rw [Nat.mul_comm g, Nat.add_comm n, Nat.two_pow_add_eq_or_of_lt hn, Nat.or_comm]
set_option maxHeartbeats 4000000 in
theorem value_any (v : Value) (l : List Nat) (w : World) (h : BytesAt w v l) (hl : l.length < 9223372036854775808) (hb : ∀ x ∈ l, x < 256) :
    Calls Try.prog 11 #[v] w fun e w' => e = .returned (.tuple #[.int .u64 ((valB l).1 : Nat), .int .i64 ((valB l).2 : Nat)]) ∧ w' = w := by
  have HA := Lib.hid h
  obtain ⟨a, c, rfl, hc⟩ := h.len
  have HBB := Lib.hid hb
  obtain ⟨m, hm⟩ : ∃ m, min l.length 10 = m := ⟨_, rfl⟩
  have HM := Lib.hid hm
  have hml : m ≤ l.length := by omega
  have hm10 : m ≤ 10 := by omega
  have hs := slice_upto (w := w) (a := a) (n := l.length) (c := c) (k := m) (by omega)
  have HT := Lib.hid (HA.out.take (k := m) hml)
  have hmi : min (l.length : Int) 10 = m := by omega
  obtain ⟨ua, un, uc, hu⟩ : ∃ ua un uc, sliced a 0 m c 1 = .slice ua un uc := ⟨_, _, _, rfl⟩
  rw [hu] at HT hs
  have hun : un = m := by
    unfold sliced at hu
    injection hu with _ h2 _
    omega
  subst hun
  have HS := Lib.hid hs
  clear h hb hm hu
  go_enter Try.func11, Try.ntmps11
  have hs := HS.out
  go_wp2_with fail
  clear hs
  have hl9 : l.length < 9223372036854775808 := hl
  go_loopw [4, 15] (fun z i wr => ∃ k : Nat, i = .int .i64 k ∧ k ≤ un ∧ z = .int .u64 (lowG l k : Nat) ∧ Hid (OnB l k) ∧ wr = w) (fun _ i _ => un - (intOf i).toNat)
  case atStart => exact ⟨0, rfl, Nat.zero_le _, rfl, Lib.hid (fun _ _ h => by omega), rfl⟩
  case round =>
    obtain ⟨k, rfl, hk, rfl, HG, rfl⟩ := hrel
    by_cases hlt : k < un
    · have hd : decide ((k : Int) < un) = true := decide_eq_true (by omega)
      have hkl : k < l.length := Nat.lt_of_lt_of_le hlt hml
      obtain ⟨b, o, rfl, c0⟩ := HT.out.at (i := k) (by rw [List.length_take]; omega)
      replace c0 : wr.cell? ⟨b, o + k, none⟩ = some (.int .u8 (l[k]'hkl : Nat)) := by rw [List.getElem_take] at c0; exact c0
      have hx := HBB.out (l[k]'hkl) (List.getElem_mem _)
      have HX : Hid (l[k] < 256) := Lib.hid hx
      have hn := lowG_lt l k
      have hk9 : k ≤ 9 := by omega
      have HFW := Lib.hid (fun h => valB_wide (l := l) h)
      have HFL := Lib.hid (valB_last HG.out hkl)
      have HFZ := Lib.hid (valB_zero_last HG.out hkl)
      have HGN := Lib.hid (HG.out.next hkl)
      have HLN := Lib.hid (lowG_succ hkl)
      have HW : Hid (k = 9 → 2 ≤ l[k] % 128 → valB l = (0, 0)) := Lib.hid (by intro e h; subst e; exact valB_wide HG.out hkl h hx)
      have hk10 : (k : Int) < 10 := by omega
      have hki : (k : Int) < un := by omega
      clear hc hl hl9 hmi HFW HG HM HS
      generalize l[k] = x at *
      obtain ⟨n, hne⟩ : ∃ n, lowG l k = n := ⟨_, rfl⟩
      have HN := Lib.hid hne
      rw [hne] at hn HLN HFL ⊢
      clear hne
      clear HBB
      by_cases hA : k = 9 ∧ 2 ≤ x % 128
      · obtain ⟨h9, h2⟩ := hA
        have hq := group_no h9 h2
        have HV := Lib.hid (HW.out h9 h2)
        clear h9 h2
        clear HW HFL HFZ HGN HLN hn hx
        go_wp2_with fail
        go_ret2
        exact ⟨by rw [HV.out]; rfl, rfl⟩
      · have hq := group_yes hk9 hA
        have HGF := Lib.hid (group_fits hk9 hA)
        have HOR := Lib.hid (or_low hn (group_fits hk9 hA).2 hk9)
        by_cases h128 : 128 ≤ x
        · have d1 : decide ((x : Int) ≥ 128) = true := decide_eq_true (by omega)
          have d2 : decide ((128 : Int) ≤ x) = true := decide_eq_true (by omega)
          clear HW HFL HFZ hn hx
          go_wp2_with fail
          exact ⟨⟨k + 1, rfl, hlt, by rw [HGF.out.1, HOR.out, HLN.out], Lib.hid (HGN.out h128 HX.out), trivial⟩, by simp only [intOf]; omega⟩
        · have d1 : decide ((x : Int) ≥ 128) = false := decide_eq_false (by omega)
          have d2 : decide ((128 : Int) ≤ x) = false := decide_eq_false (by omega)
          by_cases hz : x = 0 ∧ 0 < k
          · obtain ⟨hx0, hk0⟩ := hz
            have HV := Lib.hid (HFZ.out hx0 hk0)
            have d3 : decide ((k : Int) > 0) = true := decide_eq_true (by omega)
            have d4 : decide ((0 : Int) < k) = true := decide_eq_true (by omega)
            have d5 : ((x : Int) == 0) = true := by rw [beq_iff_eq]; omega
            clear HW HFL HFZ HGN HLN hn hx hx0
            go_wp2_with fail
            go_ret2
            exact ⟨by rw [HV.out]; rfl, rfl⟩
          · have HV := Lib.hid (HFL.out (by omega) hz hk9 (by omega))
            have HXM := Lib.hid (show x % 128 = x by omega)
            by_cases hx0 : x = 0
            · have d3 : decide ((k : Int) > 0) = false := decide_eq_false (by omega)
              have d4 : decide ((0 : Int) < k) = false := decide_eq_false (by omega)
              have d6 : decide (0 < k) = false := decide_eq_false (by omega)
              have d5 : ((x : Int) == 0) = true := by rw [beq_iff_eq]; omega
              clear HW HFL HFZ HGN HLN hn hx hx0 hz
              go_wp2_with fail
              go_ret2
              exact ⟨by rw [HV.out, HGF.out.1, HOR.out, HXM.out]; rfl, rfl⟩
            · have d5 : ((x : Int) == 0) = false := by rw [beq_eq_false_iff_ne]; omega
              clear HW HFL HFZ HGN HLN hn hx hx0 hz
              go_wp2_with fail
              go_ret2
              exact ⟨by rw [HV.out, HGF.out.1, HOR.out, HXM.out]; rfl, rfl⟩
    · obtain rfl : k = un := by omega
      have hd : decide ((k : Int) < k) = false := by simp
      have HV := Lib.hid (valB_end HG.out HM.out)
      go_wp2_with fail
      go_ret2
      exact ⟨by rw [HV.out]; rfl, rfl⟩
end Go.Proofs.Ytmhjabodhgacnaa
