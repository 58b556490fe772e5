/- The walk of DfacodeSizes. -/
import Derived.Test.YtmhjabodhgacnaaPZ
import Derived.Test.YtmhjabodhgacnaaPY
set_option maxRecDepth 100000
namespace Go.Proofs.Ytmhjabodhgacnaa
open Go.RowKit

/-- How many bytes a number has more than none. -/
def lenz (m : Nat) : Nat := if m = 0 then 0 else (numB m).length
theorem lenz_num (x : Nat) : (numB x).length = 1 + lenz (x / 128) := by
  by_cases h : x < 128
  · rw [numB_lt h, show x / 128 = 0 from by omega]; rfl
  · rw [numB_ge h]
    unfold lenz
    rw [if_neg (by omega), List.length_cons]
    omega
theorem lenz_pos {m : Nat} (h : 0 < m) : lenz m = 1 + lenz (m / 128) := by
  conv => lhs; unfold lenz
  rw [if_neg (by omega), lenz_num]
set_option maxHeartbeats 8000000 in
theorem sizes_law (v : Value) (l : List Nat) (w : World) (hv : WordsAt w v l) (hl : l.length < 9223372036854775808) (hb : ∀ x ∈ l, x < 18446744073709551616) :
    Calls Try.prog 7 #[v] w fun e w' => e = .returned (.bool true) ∧ Below w.heap.size w w' := by
  obtain ⟨N, hN⟩ : ∃ N, w.heap.size = N := ⟨_, rfl⟩
  have HN := Lib.hid hN
  have HV := Lib.hid (fun W (hW : Below N w W) => hv.below (by rw [hN]; exact hW))
  have HLB := Lib.hid hb
  obtain ⟨av, cv, rfl⟩ := hv.len
  have HAW : Hid (∀ W, Calls Try.prog 8 #[] W fun e w' => e = .returned (.bool true) ∧ Below W.heap.size W w') := Lib.hid awake_any
  clear hv hb
  rw [hN]
  by_cases h30 : l.length ≤ 30
  · have d1 : decide ((l.length : Int) > 30) = false := decide_eq_false (by omega)
    have d2 : decide ((30 : Int) < l.length) = false := decide_eq_false (by omega)
    have d3 : decide (30 < l.length) = false := decide_eq_false (by omega)
    have HNB := Lib.hid (fun (n : Nat) (hn : n < 18446744073709551616) W => number11_any n W hn)
    clear hl
    go_enter Try.func7, Try.ntmps7
    go_wp2_with (go_at_call 8; (with_reducible refine (HAW.out _).mono ?_); rintro e w2 ⟨rfl, hb2⟩; have HB2 : Hid (Below N w w2) := Lib.hid (by rw [← HN.out]; exact hb2); clear hb2)
    go_loopw [4, 5] (fun u i wr => ∃ k : Nat, i = .int .i64 k ∧ k ≤ l.length ∧ Hid (OwnF wr N u ((l.take k).flatMap numB)) ∧ Hid (Below N w wr)) (fun _ i _ => l.length - (intOf i).toNat)
    case atStart => exact ⟨0, rfl, Nat.zero_le _, Lib.hid (OwnF.nil _ _), HB2⟩
    case round =>
      clear HB2
      obtain ⟨k, rfl, hk, HO, HB⟩ := hrel
      obtain ⟨wo, rfl⟩ : ∃ wo, wo = wr := ⟨_, rfl⟩
      have HLL : Hid (((l.take k).flatMap numB).length ≤ 10 * 30) := Lib.hid (by
        have h1 := flat_le numB 10 (l.take k) fun x hx => numB_ten (HLB.out x (List.mem_of_mem_take hx))
        rw [List.length_take] at h1
        omega)
      by_cases hlt : k < l.length
      · have hd : decide ((k : Int) < l.length) = true := decide_eq_true (by omega)
        have hki : (k : Int) < l.length := by omega
        obtain ⟨b, o, rfl, e0⟩ := (HV.out wo HB.out).at hlt
        have hx64 := HLB.out l[k] (List.getElem_mem hlt)
        have HTK := Lib.hid (show (l.take (k + 1)).flatMap numB = (l.take k).flatMap numB ++ numB l[k] from by rw [List.take_succ_eq_append_getElem hlt, List.flatMap_append]; simp)
        have HNX := Lib.hid (HNB.out l[k] hx64 wo)
        have HX := Lib.hid hx64
        generalize l[k] = x at *
        obtain ⟨L1, hL1⟩ : ∃ L1, (l.take k).flatMap numB = L1 := ⟨_, rfl⟩
        rw [hL1] at HO HTK HLL
        obtain ⟨n1, hn1⟩ : ∃ n1, L1.length = n1 := ⟨_, rfl⟩
        have HN1 := Lib.hid hn1
        obtain ⟨a1, c1, rfl⟩ := HO.out.form
        rw [hn1] at HO HLL ⊢
        clear hL1 hn1
        go_upto_region 11 with (go_at_call 13; (with_reducible refine HNX.out.mono ?_); rintro e w3 ⟨v3, rfl, ho3, hb3⟩)
        have HO3 := ho3
        obtain ⟨a3, c3, rfl⟩ := HO3.out.form
        obtain ⟨ad3, rfl⟩ := addr_at HO3.out.bytes (numB_pos x)
        have HB3 : Hid (Below N w w3) := Lib.hid (HB.out.trans (hb3.out.mono (by rw [← HN.out]; exact HB.out.size)))
        have HOO := Lib.hid (HO.out.below hb3.out)
        have e0 := cell_below hb3.out e0
        have HLX := Lib.hid (lenz_num x)
        have hlx := numB_ten HX.out
        have hlp := numB_pos x
        have HLQ : Hid (((x / 128 : Nat) : Int) = (x : Int) / 128) := Lib.hid (by omega)
        obtain ⟨nx, hnx⟩ : ∃ nx, (numB x).length = nx := ⟨_, rfl⟩
        have HNXL := Lib.hid hnx
        rw [hnx] at HLX hlx hlp HO3 ⊢
        clear hnx ho3 hb3 HNX
        go_wp2_with fail
        go_loopw [7, 8] (fun z u wr => ∃ (s m : Nat), z = .int .i64 s ∧ u = .int .u64 m ∧ Hid (nx = s + lenz m) ∧ s ≤ 10 ∧ Hid (m < 18446744073709551616) ∧ wr = w3) (fun _ u _ => (intOf u).toNat)
        case atStart => exact ⟨1, x / 128, rfl, by rw [HLQ.out], HLX, by omega, Lib.hid (by have := HX.out; omega), rfl⟩
        case round =>
          obtain ⟨s, m, rfl, rfl, HE, hs10, HM64, rfl⟩ := hrel
          by_cases hm : 0 < m
          · have d5 : decide ((m : Int) > 0) = true := decide_eq_true (by omega)
            have d6 : decide ((0 : Int) < m) = true := decide_eq_true (by omega)
            have HP := Lib.hid (lenz_pos hm)
            have hs9 : s + 1 ≤ 10 := by
              have h1 := HE.out
              have h2 := HP.out
              omega
            have HMD : Hid (m / 128 < m ∧ ((m / 128 : Nat) : Int) = (m : Int) / 128) := Lib.hid (by omega)
            have hwm : IntKind.u64.wrap ((m : Int) / 128) = (m : Int) / 128 := by rw [IntKind.wrap_u64]; have := HM64.out; omega
            go_wp2_with fail
            exact ⟨⟨s + 1, m / 128, rfl, by rw [HMD.out.2], Lib.hid (by rw [HE.out, HP.out]; omega), hs9, Lib.hid (by have := HM64.out; omega), trivial⟩, by simp only [intOf]; have := HMD.out; omega⟩
          · obtain rfl : m = 0 := by omega
            have hsn : nx = s := by have h1 := HE.out; simp [lenz] at h1; exact h1
            have hsi : ((nx : Int) != s) = false := by rw [hsn]; simp
            subst hsn
            have HLA : Hid (n1 + nx ≤ 100000000) := Lib.hid (by have := HLL.out; omega)
            have hNr : N ≤ wr.heap.size := by rw [← HN.out]; exact HB3.out.size
            have HNR := Lib.hid hNr
            clear hNr
            go_wp2_with (at_builtin; refine wpList_append_of rfl _ _ rfl N (.slice a1 n1 c1) L1 (numB x) n1 HN1.out rfl HOO.out ad3 c3 nx HNXL.out rfl (news_at HO3.out.bytes) (by omega) HLA.out HNR.out ?_; intro g8 cap8 w8 h2 h3 h4; have HO8 := Lib.hid h2; have HG8 := Lib.hid h4; clear h2 h3 h4)
            exact ⟨⟨k + 1, rfl, hlt, by rw [HTK.out]; exact HO8, Lib.hid (HB3.out.trans (HOO.out.gr HG8.out HNR.out))⟩, by simp only [intOf]; omega⟩
      · have hkk : k = l.length := by omega
        have hd : decide ((k : Int) < l.length) = false := decide_eq_false (by omega)
        have hdn : decide (k < l.length) = false := decide_eq_false hlt
        have HT := Lib.hid (show (l.take k).flatMap numB = (l.drop 0).flatMap numB from by rw [hkk, List.take_length, List.drop_zero])
        have HBY : Hid (BytesAt wo u4 ((l.drop 0).flatMap numB)) := Lib.hid (by rw [← HT.out]; exact HO.out.bytes)
        clear hkk HO
        go_wp2_with fail
        go_loopw [4, 9] (fun u i wr => ∃ k : Nat, i = .int .i64 k ∧ k ≤ l.length ∧ Hid (BytesAt wr u ((l.drop k).flatMap numB)) ∧ wr = wo) (fun _ i _ => l.length - (intOf i).toNat)
        case atStart => exact ⟨0, rfl, Nat.zero_le _, HBY, rfl⟩
        case round =>
          clear HBY hlt hd hdn
          obtain ⟨j, rfl, hj, HBJ, rfl⟩ := hrel
          obtain ⟨aj, cj, rfl, hcj⟩ := HBJ.out.len
          have HFB : Hid (∀ x ∈ (l.drop j).flatMap numB, x < 256) := Lib.hid (by
            intro x hx
            obtain ⟨y, _, hx⟩ := List.mem_flatMap.1 hx
            exact numB_bytes y x hx)
          have HFL : Hid (((l.drop j).flatMap numB).length ≤ 10 * 30) := Lib.hid (by
            have h1 := flat_le numB 10 (l.drop j) fun x hx => numB_ten (HLB.out x (List.mem_of_mem_drop hx))
            rw [List.length_drop] at h1
            omega)
          have HVA := Lib.hid (value_any _ _ wr HBJ.out (by have := HFL.out; omega) HFB.out)
          by_cases hjl : j < l.length
          · have hd : decide ((j : Int) < l.length) = true := decide_eq_true (by omega)
            have hji : (j : Int) < l.length := by omega
            obtain ⟨b, o, rfl, e0⟩ := (HV.out wr HB.out).at hjl
            have hx64 := HLB.out l[j] (List.getElem_mem hjl)
            have HDJ := Lib.hid (show (l.drop j).flatMap numB = numB l[j] ++ (l.drop (j + 1)).flatMap numB from by rw [List.drop_eq_getElem_cons hjl, List.flatMap_cons])
            have HVB := Lib.hid (valB_num hx64 ((l.drop (j + 1)).flatMap numB))
            rw [← HDJ.out] at HVB
            rw [HVB.out] at HVA
            have hlx := numB_ten hx64
            have hlp := numB_pos l[j]
            have HDL : Hid ((l.drop (j + 1)).flatMap numB = ((l.drop j).flatMap numB).drop (numB l[j]).length) := Lib.hid (by rw [HDJ.out, List.drop_left])
            generalize l[j] = x at *
            have hle : (numB x).length ≤ ((l.drop j).flatMap numB).length := by rw [HDJ.out, List.length_append]; omega
            have HDR := Lib.hid (HBJ.out.drop hle)
            have hsl := slice_from (w := wr) (a := aj) (n := ((l.drop j).flatMap numB).length) (c := cj) (k := (numB x).length) hle
            obtain ⟨nx, hnx⟩ : ∃ nx, (numB x).length = nx := ⟨_, rfl⟩
            rw [hnx] at HVA hlx hlp HDL hle HDR hsl
            rw [← HDL.out] at HDR
            generalize ((l.drop j).flatMap numB).length = nj at *
            obtain ⟨ua, un, uc, hu⟩ : ∃ ua un uc, sliced aj nx nj cj 1 = .slice ua un uc := ⟨_, _, _, rfl⟩
            rw [hu] at HDR hsl
            have q1 : decide ((nx : Int) < 1) = false := decide_eq_false (by omega)
            have q2 : decide ((nx : Int) > nj) = false := decide_eq_false (by omega)
            have q3 : decide ((nj : Int) < nx) = false := decide_eq_false (by omega)
            have q4 : decide (nj < nx) = false := decide_eq_false (by omega)
            have q5 : decide (nx < 1) = false := decide_eq_false (by omega)
            have hnj : (nx : Int) ≤ nj := by omega
            have q6 : nx ≠ 0 := by omega
            clear hnx hu HVB HFL HFB HDJ HDL hx64
            simp only [] at HVA
            go_wp2_with (go_at_call 11; (with_reducible refine HVA.out.mono ?_); rintro e w9 ⟨rfl, e9⟩; subst w9)
            exact ⟨⟨j + 1, rfl, hjl, HDR, trivial⟩, by simp only [intOf]; omega⟩
          · have hjj : j = l.length := by omega
            have hd : decide ((j : Int) < l.length) = false := decide_eq_false (by omega)
            have hdn : decide (j < l.length) = false := decide_eq_false hjl
            have HD0 := Lib.hid (show (l.drop j).flatMap numB = [] from by rw [hjj, List.drop_length]; rfl)
            rw [HD0.out] at HVA
            have HVA : Hid (Calls Try.prog 11 #[.slice aj 0 cj] wr fun e w' => e = .returned (.tuple #[.int .u64 0, .int .i64 0]) ∧ w' = wr) := HVA
            have HLE : Hid (((l.drop j).flatMap numB).length = 0) := Lib.hid (by rw [HD0.out]; rfl)
            rw [HLE.out]
            clear hjj hcj HBJ
            go_wp2_with (go_at_call 11; (with_reducible refine HVA.out.mono ?_); rintro e w9 ⟨rfl, e9⟩; subst w9)
            go_ret
            exact ⟨rfl, HB.out⟩
  · have d1 : decide ((l.length : Int) > 30) = true := decide_eq_true (by omega)
    have d2 : decide ((30 : Int) < l.length) = true := decide_eq_true (by omega)
    have d3 : decide (30 < l.length) = true := decide_eq_true (by omega)
    clear h30 hl
    go_enter Try.func7, Try.ntmps7
    go_wp2_with (go_at_call 8; (with_reducible refine (HAW.out _).mono ?_); rintro e w2 ⟨rfl, hb2⟩; have HB2 : Hid (Below N w w2) := Lib.hid (by rw [← HN.out]; exact hb2); clear hb2)
    go_ret
    exact ⟨rfl, HB2.out⟩
end Go.Proofs.Ytmhjabodhgacnaa
