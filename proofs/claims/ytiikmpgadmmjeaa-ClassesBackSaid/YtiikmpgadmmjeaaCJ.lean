/- The contract of the reference's Run over a table. -/
import Derived.Test.YtiikmpgadmmjeaaCF
set_option maxRecDepth 100000
namespace Go.Proofs.Ytiikmpgadmmjeaa
open Go.RowKit

set_option maxHeartbeats 8000000 in
theorem rrun10_any (cls : Nat → Nat) (v : Value) (T : List (List Int)) (s : ByteArray) (w : World) (hv : TabAt w v T) (hT : TabOk T) (hc : ∀ b, b < 256 → cls b < 256) (hs : s.size < 1000000000) :
    Calls Try.prog 19 #[.agg (U8s cls), v, .string s] w fun e w' => e = .returned (.int .i64 (runT T cls (bytesOf s))) ∧ Below w.heap.size w w' := by
  obtain ⟨B0, hB⟩ : ∃ B, w.heap.size = B := ⟨_, rfl⟩
  obtain ⟨I0, hI0⟩ : ∃ I0, U8s cls = I0 := ⟨_, rfl⟩
  obtain ⟨w1, hw1⟩ : ∃ w1, w.alloc (.cells I0 24) = w1 := ⟨_, rfl⟩
  have HU : Hid (UBlk w1 B0 cls) := Lib.hid (by rw [← hw1, ← hI0, ← hB]; exact UBlk.new w cls)
  have HBW : Hid (Below B0 w w1) := Lib.hid (by rw [← hw1, ← hB]; exact new_one w _)
  have HV := Lib.hid (hv.below (by rw [hB]; exact HBW.out))
  obtain ⟨av, cv, rfl⟩ := hv.len
  have HTR := Lib.hid hT.2
  have HTL := hT.1
  have HCC := Lib.hid hc
  clear hv hT hc
  obtain ⟨R, hR⟩ : ∃ R, runT T cls (bytesOf s) = R := ⟨_, rfl⟩
  have HR0 := Lib.hid (show T.length = 0 → R = -1 from fun h => by rw [← hR]; unfold runT; rw [if_pos h])
  have HRT := Lib.hid (show T.length ≠ 0 → R = (bytesOf s).foldl (goT T cls) 0 from fun h => by rw [← hR]; unfold runT; rw [if_neg h])
  have HST := Lib.hid (show ∀ i (h : i < s.size), ((bytesOf s).take (i + 1)).foldl (goT T cls) 0 = goT T cls (((bytesOf s).take i).foldl (goT T cls) 0) s[i].toNat from fun i h => by
    rw [goT_take (by rw [bytesOf_len]; exact h), bytesOf_get s i h])
  have HFIN := Lib.hid (show T.length ≠ 0 → ((bytesOf s).take s.size).foldl (goT T cls) 0 = R from fun h => by rw [HRT.out h, List.take_of_length_le (by rw [bytesOf_len]; omega)])
  have HSTAY := Lib.hid (show T.length ≠ 0 → ∀ i, ((bytesOf s).take i).foldl (goT T cls) 0 = -1 → R = -1 from fun h i h2 => by rw [HRT.out h]; exact goT_stay h2)
  rw [hI0, hB, hR]
  clear hR hI0
  go_enter Try.func19, Try.ntmps19
  go_wp2
  clear hw1
  go_loopw [7, 8, 9] (fun x z _ wr => ∃ (i : Nat) (a : Int), z = .int .i64 i ∧ i ≤ s.size ∧ x = .int .i64 a ∧ Hid (i = 0 → a = 0) ∧ Hid (T.length = 0 → i = 0) ∧ Hid (((bytesOf s).take i).foldl (goT T cls) 0 = max a (-1)) ∧ wr = w1) (fun _ z _ _ => (s.size + 1) - (intOf z).toNat)
  case atStart => exact ⟨0, 0, rfl, Nat.zero_le _, rfl, Lib.hid fun _ => rfl, Lib.hid fun _ => rfl, Lib.hid rfl, rfl⟩
  case round =>
    obtain ⟨i, a, rfl, hi, rfl, HA0, HT0, HFO, rfl⟩ := hrel
    have hd : decide ((i : Int) ≤ s.size) = true := decide_eq_true (by omega)
    have hdn : decide (i ≤ s.size) = true := decide_eq_true hi
    have HRNEG := Lib.hid (show a < 0 → R = -1 from fun h => by
      by_cases h0 : T.length = 0
      · exact HR0.out h0
      · exact HSTAY.out h0 i (by rw [HFO.out]; omega))
    by_cases hneg : a < 0
    · have n1 : decide (a < 0) = true := decide_eq_true hneg
      have n2 : decide (a ≥ 0) = false := decide_eq_false (by omega)
      have n3 : decide (0 ≤ a) = false := decide_eq_false (by omega)
      have HE := Lib.hid (HRNEG.out hneg)
      clear hneg
      by_cases hi0 : i = 0
      · subst hi0
        go_wp2
        go_ret
        exact ⟨by rw [HE.out]; rfl, HBW.out⟩
      · have p1 : decide ((i : Int) > 0) = true := decide_eq_true (by omega)
        have p2 : decide (0 < i) = true := decide_eq_true (by omega)
        by_cases his : i = s.size
        · subst his
          clear hi0
          go_wp2
          go_ret
          exact ⟨by rw [HE.out]; rfl, HBW.out⟩
        · have q1 : ((i : Int) == s.size) = false := by rw [beq_eq_false_iff_ne]; omega
          have q2 : (i == s.size) = false := by rw [beq_eq_false_iff_ne]; omega
          clear hi0 his
          go_wp2
          go_ret
          exact ⟨by rw [HE.out]; rfl, HBW.out⟩
    · obtain ⟨r, rfl⟩ : ∃ r : Nat, a = r := ⟨a.toNat, by omega⟩
      have n1 : decide ((r : Int) < 0) = false := decide_eq_false (by omega)
      have n2 : decide ((r : Int) ≥ 0) = true := decide_eq_true (by omega)
      have HFR := Lib.hid (show ((bytesOf s).take i).foldl (goT T cls) 0 = (r : Nat) from by rw [HFO.out]; omega)
      clear hneg HRNEG
      by_cases hfar : r < T.length
      · have f1 : decide ((r : Int) ≥ T.length) = false := decide_eq_false (by omega)
        have f2 : decide ((T.length : Int) ≤ r) = false := decide_eq_false (by omega)
        have f3 : decide (T.length ≤ r) = false := decide_eq_false (by omega)
        have h0 : T.length ≠ 0 := by omega
        have HTN := Lib.hid h0
        by_cases his : i = s.size
        · subst his
          have HE := Lib.hid (show R = (r : Nat) from (HFIN.out h0).symm.trans HFR.out)
          clear h0
          go_wp2
          go_ret
          exact ⟨by rw [HE.out]; rfl, HBW.out⟩
        · have hlt : i < s.size := by omega
          have q1 : ((i : Int) == s.size) = false := by rw [beq_eq_false_iff_ne]; omega
          have q2 : (i == s.size) = false := by rw [beq_eq_false_iff_ne]; omega
          have hb0 := s[i].toNat_lt
          have HS1 := Lib.hid ((HST.out i hlt).trans (show _ = nextT T r (cls s[i].toNat) from by rw [HFR.out]; unfold goT; rw [if_neg (by omega), Int.toNat_natCast]))
          have c0 := HU.out.cell (show s[i].toNat < 256 from hb0)
          have hk256 := HCC.out _ hb0
          obtain ⟨bb, hbb⟩ : ∃ bb, s[i].toNat = bb := ⟨_, rfl⟩
          rw [hbb] at HS1 c0 hb0 hk256
          have hbi : (bb : Int) < 256 := by omega
          obtain ⟨b2, o2, rv, rfl, e0, hrow⟩ := HV.out.at rfl hfar
          have HSY := Lib.hid (HSTAY.out h0 (i + 1))
          have hri : (r : Int) < T.length := by omega
          clear his h0
          by_cases hsh : cls bb < T[r].length
          · have HN := Lib.hid (nextT_at hfar hsh)
            generalize T[r] = l at *
            obtain ⟨ar, cr, rfl⟩ := hrow.len
            obtain ⟨b3, o3, rfl, e1⟩ := hrow.at rfl hsh
            generalize cls bb = k at *
            have g1 : decide ((k : Int) ≥ l.length) = false := decide_eq_false (by omega)
            have g2 : decide ((l.length : Int) ≤ k) = false := decide_eq_false (by omega)
            have g3 : decide (l.length ≤ k) = false := decide_eq_false (by omega)
            have hki : (k : Int) < l.length := by omega
            generalize l[k] = x at *
            clear hrow
            go_wp2
            exact ⟨⟨i + 1, x, rfl, hlt, rfl, Lib.hid (by omega), Lib.hid (by have := HTN.out; omega), Lib.hid (by rw [HS1.out, HN.out]), trivial⟩, by simp only [intOf]; omega⟩
          · have HE := Lib.hid (HSY.out (by rw [HS1.out]; exact nextT_short hfar hsh))
            generalize T[r] = l at *
            obtain ⟨ar, cr, rfl⟩ := hrow.len
            generalize cls bb = k at *
            have g1 : decide ((k : Int) ≥ l.length) = true := decide_eq_true (by omega)
            have g2 : decide ((l.length : Int) ≤ k) = true := decide_eq_true (by omega)
            have g3 : decide (l.length ≤ k) = true := decide_eq_true (by omega)
            clear hrow
            go_wp2
            go_ret
            exact ⟨by rw [HE.out]; rfl, HBW.out⟩
      · have f1 : decide ((r : Int) ≥ T.length) = true := decide_eq_true (by omega)
        have f2 : decide ((T.length : Int) ≤ r) = true := decide_eq_true (by omega)
        have f3 : decide (T.length ≤ r) = true := decide_eq_true (by omega)
        by_cases hi0 : i = 0
        · subst hi0
          have hr0 := HA0.out rfl
          obtain rfl : r = 0 := by omega
          have HE := Lib.hid (HR0.out (by omega))
          obtain rfl : T = [] := List.eq_nil_of_length_eq_zero (by omega)
          clear hfar hr0 f1 f2 f3
          simp only [List.length_nil] at *
          go_wp2
          go_ret
          exact ⟨by rw [HE.out]; rfl, HBW.out⟩
        · have p1 : decide ((i : Int) > 0) = true := decide_eq_true (by omega)
          have p2 : decide (0 < i) = true := decide_eq_true (by omega)
          by_cases his : i = s.size
          · subst his
            by_cases h0 : T.length = 0
            · exact absurd (HT0.out h0) hi0
            · have HE2 := Lib.hid (show R = (r : Nat) from (HFIN.out h0).symm.trans HFR.out)
              clear hfar h0 hi0
              go_wp2
              go_ret
              exact ⟨by rw [HE2.out]; rfl, HBW.out⟩
          · have q1 : ((i : Int) == s.size) = false := by rw [beq_eq_false_iff_ne]; omega
            have q2 : (i == s.size) = false := by rw [beq_eq_false_iff_ne]; omega
            have HE := Lib.hid (show R = -1 from by
              by_cases h0 : T.length = 0
              · exact HR0.out h0
              · refine HSTAY.out h0 (i + 1) ?_
                rw [HST.out i (by omega), HFR.out]
                unfold goT
                rw [if_neg (by omega), Int.toNat_natCast, nextT_far hfar])
            clear hfar hi0 his
            go_wp2
            go_ret
            exact ⟨by rw [HE.out]; rfl, HBW.out⟩
end Go.Proofs.Ytiikmpgadmmjeaa
