/- The walk of ClassesFew. -/
import Derived.Test.YtiikmpgadmmjeaaCV
import Derived.Test.YtiikmpgadmmjeaaXH
set_option maxRecDepth 100000
namespace Go.Proofs.Ytiikmpgadmmjeaa
open Go.RowKit
attribute [local go_sem] zero_u8s

/-- How many arcs the first states have. -/
def arcsTo (m : List Sta) (i : Nat) : Nat := ((m.take i).map fun s => s.arcs.length).sum
theorem arcsTo_succ {m : List Sta} {i : Nat} (h : i < m.length) : arcsTo m (i + 1) = arcsTo m i + m[i].arcs.length := by
  unfold arcsTo
  rw [List.take_succ_eq_append_getElem h, List.map_append, List.sum_append]
  simp
theorem arcsTo_all (m : List Sta) : arcsTo m m.length = arcsN m := by unfold arcsTo arcsN; rw [List.take_length]
theorem fits_256 {n : Nat} {l : List Arc3} (hf : fitsB n l = true) (hb : ∀ a ∈ l, a.hi < 256) : l.length ≤ 256 := by
  have h := arcsUp_len (firstTo l) 256
  have h2 := arcs_first hf hb
  unfold arcsS at h2
  rw [h2] at h
  exact h
theorem arcsTo_le {m : List Sta} (h : checkB m = true) (hm : Mays m) : ∀ i, i ≤ m.length → arcsTo m i ≤ 256 * i
  | 0, _ => Nat.zero_le _
  | i + 1, hi => by
    rw [arcsTo_succ (by omega)]
    have h1 := arcsTo_le h hm i (by omega)
    have h2 := fits_256 ((check_fits h).2 i (by omega)) fun a ha => ((hm m[i] (List.getElem_mem _)).2 a ha).2.1
    omega
theorem err_no2 {m : List Sta} (h : checkB m = false) : errV (checkB m) = 110 := by rw [h]; rfl
theorem err_ok2 {m : List Sta} (h : checkB m = true) : errV (checkB m) = 0 := by rw [h]; rfl
theorem strOf_snoc (l : List Nat) (x : Nat) : strOf (l ++ [x]) = strOf l ++ strOf [x] := by
  unfold strOf
  apply ByteArray.ext
  simp
theorem strOf_bytes {l : List Nat} (h : ∀ x ∈ l, x < 256) : bytesOf (strOf l) = l := by
  unfold bytesOf strOf
  simp only [List.map_map]
  rw [List.map_congr_left (g := id) fun x hx => ?_, List.map_id]
  simp only [Function.comp, id]
  rw [UInt8.toNat_ofNat']
  exact Nat.mod_eq_of_lt (h x hx)
theorem strOf_size (l : List Nat) : (strOf l).size = l.length := by
  show (strOf l).data.size = _
  simp [strOf]
set_option linter.unusedSimpArgs false in
set_option maxHeartbeats 16000000 in
theorem few_law (v : Value) (m : List Sta) (s : ByteArray) (w : World) (hv : MachAt w v m) (hml : m.length < 9223372036854775808) (hl : ∀ s ∈ m, s.arcs.length < 9223372036854775808) (hm : Mays m) :
    Calls Try.prog 6 #[v, .string s] w fun e w' => e = .returned (.bool true) ∧ Below w.heap.size w w' := by
  obtain ⟨B0, hB⟩ : ∃ B, w.heap.size = B := ⟨_, rfl⟩
  have HB := Lib.hid hB
  have HV0 := Lib.hid (fun W (hW : Below B0 w W) => hv.below (by rw [hB]; exact hW))
  obtain ⟨av, cv, rfl⟩ := hv.len
  have HL := Lib.hid hl
  have HM := Lib.hid hm
  have HML := Lib.hid hml
  clear hv hl hm
  rw [hB]
  have HAW : Hid (∀ W, Calls Try.prog 7 #[] W fun e w' => e = .returned (.bool true) ∧ Below W.heap.size W w') := Lib.hid awake_any
  by_cases h20 : m.length ≤ 20
  · have d1 : decide ((m.length : Int) > 20) = false := decide_eq_false (by omega)
    have d2 : decide ((20 : Int) < m.length) = false := decide_eq_false (by omega)
    have d3 : decide (20 < m.length) = false := decide_eq_false (by omega)
    by_cases h60 : s.size ≤ 60
    · have e1 : decide ((s.size : Int) > 60) = false := decide_eq_false (by omega)
      have e2 : decide ((60 : Int) < s.size) = false := decide_eq_false (by omega)
      have e3 : decide (60 < s.size) = false := decide_eq_false (by omega)
      have HCK := Lib.hid (fun W hW => rcheck07_any _ m W (HV0.out W hW) HL.out HM.out)
      cases hck : checkB m
      · rw [err_no2 hck] at HCK
        clear h20 h60 hck
        go_enter Try.func6, Try.ntmps6
        go_wp2_with (first
          | (go_at_call 7; (with_reducible refine (HAW.out _).mono ?_); rintro e w2 ⟨rfl, hb2⟩; have HBW2 : Hid (Below B0 w w2) := Lib.hid (by rw [← HB.out]; exact hb2); have HC2 := Lib.hid (HCK.out w2 HBW2.out); clear hb2)
          | (go_at_call 20; (with_reducible refine HC2.out.mono ?_); rintro e w3 ⟨rfl, hb3⟩; have HBW3 := Lib.hid (HBW2.out.trans (hb3.mono (by rw [← HB.out]; exact HBW2.out.size))); clear hb3))
        go_ret
        exact ⟨rfl, HBW3.out⟩
      · rw [err_ok2 hck] at HCK
        have HOF := Lib.hid (fun W hW => of_any _ m W (HV0.out W hW) (by omega) HL.out HM.out)
        have HCL := Lib.hid (cls_lt m)
        have HCM := Lib.hid (cnt_mx m)
        have HFW := Lib.hid (cnt_few m)
        have HRL := Lib.hid (run_low m (bytesOf_lt s))
        have HCN := Lib.hid (show ∀ b, b < 256 → clsOf (likeB m) b < cntOf m from fun b hb => (low_like m hb).1)
        have HLL := Lib.hid (low_lt (clsOf (likeB m)) 256)
        have HLW := Lib.hid (fun W => lows_any (clsOf (likeB m)) (cntOf m) W (cls_lt m) (cnt_mx m))
        have HAL := Lib.hid (arcsTo_le hck HM.out)
        have HAS := Lib.hid (fun i (hi : i < m.length) => arcsTo_succ hi)
        have HAA := Lib.hid (arcsTo_all m)
        have HS60 := Lib.hid h60
        have HM20 := Lib.hid h20
        have HRR := Lib.hid (fun (t : ByteArray) (ht : t.size < 9223372036854775808) W hW => rrun_any _ m t W (HV0.out W hW) HL.out HM.out ht)
        clear hck h20 h60
        obtain ⟨n, hn⟩ : ∃ n, cntOf m = n := ⟨_, rfl⟩
        obtain ⟨cl, hcl⟩ : ∃ cl, clsOf (likeB m) = cl := ⟨_, rfl⟩
        rw [hcl] at HCL HCM HRL HCN HLL HLW HOF
        rw [hn] at HCM HCN HLW HFW HOF
        clear hn hcl
        obtain ⟨lf, hlf⟩ : ∃ lf, lowF cl 256 = lf := ⟨_, rfl⟩
        rw [hlf] at HRL HLL HLW
        clear hlf
        obtain ⟨A, hA⟩ : ∃ A, arcsTo m = A := ⟨_, rfl⟩
        rw [hA] at HAL HAS HAA
        have HA0 : Hid (A 0 = 0) := Lib.hid (by rw [← hA]; rfl)
        clear hA
        obtain ⟨I1, hI1⟩ : ∃ I1, U8s (fun _ => 0) = I1 := ⟨_, rfl⟩
        have HI1 := Lib.hid hI1
        have hz := zero_u8s
        rw [hI1] at hz
        have HZ := Lib.hid hz
        clear hI1 hz
        go_enter Try.func6, Try.ntmps6
        go_wp2_with (first
          | (go_at_call 7; (with_reducible refine (HAW.out _).mono ?_); rintro e w2 ⟨rfl, hb2⟩; have HBW2 : Hid (Below B0 w w2) := Lib.hid (by rw [← HB.out]; exact hb2); have HC2 := Lib.hid (HCK.out w2 HBW2.out); clear hb2)
          | (go_at_call 20; (with_reducible refine HC2.out.mono ?_); rintro e w3 ⟨rfl, hb3⟩; have HBW3 := Lib.hid (HBW2.out.trans (hb3.mono (by rw [← HB.out]; exact HBW2.out.size))); have HOF3 := Lib.hid (HOF.out w3 HBW3.out); clear hb3))
        clear HC2 HBW2 HCK HOF
        go_loopw [6, 7] (fun x z wr => ∃ i : Nat, z = .int .i64 i ∧ i ≤ m.length ∧ x = .int .i64 (A i : Nat) ∧ wr = w3) (fun _ z _ => m.length - (intOf z).toNat)
        case atStart => exact ⟨0, rfl, Nat.zero_le _, by rw [HA0.out]; rfl, rfl⟩
        case round =>
          obtain ⟨i, rfl, hi, rfl, rfl⟩ := hrel
          by_cases hlt : i < m.length
          · have hd : decide ((i : Int) < m.length) = true := decide_eq_true (by omega)
            have hii : (i : Int) < m.length := by omega
            obtain ⟨b, o, va, rfl, _, c1, ha⟩ := (HV0.out wr HBW3.out).at rfl hlt
            have HSU := Lib.hid (HAS.out i hlt)
            have hle := HAL.out (i + 1) hlt
            rw [HSU.out] at hle
            have h20 := HM20.out
            obtain ⟨aa, ca, rfl⟩ := ha.len
            generalize m[i].arcs.length = q at *
            clear ha
            generalize A i = p at *
            have hwp : IntKind.i64.wrap ((p : Int) + q) = (p : Int) + q := by rw [IntKind.wrap_i64]; omega
            go_wp2
            exact ⟨⟨i + 1, rfl, hlt, by rw [HSU.out]; rfl, trivial⟩, by simp only [intOf]; omega⟩
          · obtain rfl : i = m.length := by omega
            have hd : decide ((m.length : Int) < m.length) = false := by simp
            rw [HAA.out]
            have hz := HZ.out
            go_upto_region 12 with (first
              | (go_at_call 8; (with_reducible refine HOF3.out.mono ?_); rintro e w5 ⟨rfl, hb5⟩; have HB5 := Lib.hid hb5; obtain ⟨n5, hn5⟩ : ∃ n5, w5.heap.size = n5 := ⟨_, rfl⟩; have HN5 := Lib.hid hn5; have HC5 : Hid (UBlk (w5.alloc (.cells I1 24)) n5 fun _ => 0) := Lib.hid (by rw [← HI1.out, ← hn5]; exact UBlk.new w5 _); clear hb5)
              | (refine wpList_store_u8c n5 (fun _ => 0) cl HC5.out rfl _ _ rfl rfl rfl ?_))
            obtain ⟨w6, hw6⟩ : ∃ w6, (w5.alloc (.cells I1 24)).setRow n5 (U8s cl) = w6 := ⟨_, rfl⟩
            have hn5 := HN5.out
            have hb56 : Below n5 w5 w6 := by rw [← hw6]; exact below_setRow ((Below.refl n5 w5).alloc (by omega) _) (Nat.le_refl n5) _
            have HC6 : Hid (UBlk w6 n5 cl) := Lib.hid (by rw [← hw6]; exact HC5.out.setRow)
            have hb36 : Below wr.heap.size wr w6 := HB5.out.trans (hb56.mono (by have := HB5.out.size; omega))
            have HBW6 := Lib.hid (HBW3.out.trans (hb36.mono (by rw [← HB.out]; exact HBW3.out.size)))
            have HLW6 := Lib.hid (HLW.out w6)
            rw [hw6]
            clear hw6 hn5 hb56 hb36 HC5 HB5 HOF3 HBW3 HN5 hz HLW
            go_upto_region 13 with (first
              | (refine wpList_load_u8c n5 cl HC6.out rfl _ rfl rfl ?_)
              | (go_at_call 10; (with_reducible refine HLW6.out.mono ?_); rintro e w7 ⟨L, rfl, _, HL7, HB7⟩))
            have HC7 := Lib.hid (HC6.out.below HB7.out)
            have HBW7 := Lib.hid (HBW6.out.trans (HB7.out.mono (by rw [← HB.out]; exact HBW6.out.size)))
            clear HC6 HBW6 HB7 HLW6
            obtain ⟨gl, hgl⟩ : ∃ gl : Nat → Nat, (fun b => lf (cl b)) = gl := ⟨_, rfl⟩
            have HGL := Lib.hid (show ∀ b, lf (cl b) = gl b from fun b => by rw [← hgl])
            have HG256 := Lib.hid (show ∀ b, gl b < 256 from fun b => by rw [← HGL.out]; exact HLL.out _)
            rw [show (fun b => lf (cl b)) = gl from hgl] at HRL
            clear hgl
            go_wp2
            go_loopw [11, 12, 13] (fun x z _ wq => ∃ i : Nat, z = .int .i64 i ∧ i ≤ s.size ∧ x = .string (strOf (((bytesOf s).take i).map gl)) ∧ Hid (UBlk wq n5 cl) ∧ Hid (LBlk wq L n lf) ∧ Hid (Below B0 w wq)) (fun _ z _ _ => s.size - (intOf z).toNat)
            case atStart => exact ⟨0, rfl, Nat.zero_le _, rfl, HC7, HL7, HBW7⟩
            case round =>
              clear HC7 HL7 HBW7
              obtain ⟨i, rfl, hi, rfl, HC, HLB, HBW⟩ := hrel
              by_cases hlt : i < s.size
              · have hd2 : decide ((i : Int) < s.size) = true := decide_eq_true (by omega)
                have hb0 := s[i].toNat_lt
                have c0 := HC.out.cell (show s[i].toNat < 256 from hb0)
                have hcn := HCN.out _ hb0
                have c1 := HLB.out.cell hcn
                have HGS := Lib.hid (HGL.out s[i].toNat)
                have HTK := Lib.hid (show ((bytesOf s).take (i + 1)).map gl = ((bytesOf s).take i).map gl ++ [gl s[i].toNat] from by
                  rw [List.take_succ_eq_append_getElem (by rw [bytesOf_len]; exact hlt), List.map_append, bytesOf_get s i hlt]; rfl)
                have hsl : (strOf (((bytesOf s).take i).map gl)).size = i := by
                  rw [strOf_size, List.length_map, List.length_take, bytesOf_len]; omega
                rw [HGS.out] at c1
                obtain ⟨bb, hbb⟩ : ∃ bb, s[i].toNat = bb := ⟨_, rfl⟩
                rw [hbb] at c0 c1 hcn HTK hb0
                obtain ⟨gb, hgb⟩ : ∃ gb, gl bb = gb := ⟨_, rfl⟩
                rw [hgb] at c1 HTK
                have hbi : (bb : Int) < 256 := by omega
                have hci : (cl bb : Int) < n := by omega
                generalize cl bb = kk at *
                obtain ⟨sl, hsle⟩ : ∃ sl, strOf (((bytesOf s).take i).map gl) = sl := ⟨_, rfl⟩
                have HSL := Lib.hid hsle
                rw [hsle] at hsl ⊢
                have h60 := HS60.out
                obtain ⟨wn, hwn⟩ : ∃ wn, wr.alloc (.cells #[.int .u8 (gb : Nat)] 5) = wn := ⟨_, rfl⟩
                have hbn : Below wr.heap.size wr wn := by rw [← hwn]; exact new_one wr _
                have hln : LBlk wn wr.heap.size 1 (fun _ => gb) := by rw [← hwn]; exact heap_alloc_new wr _
                have hconv := conv_low hln
                rw [show (List.range 1).map (fun _ => gb) = [gb] from rfl] at hconv
                have hs1 : (strOf [gb]).size = 1 := strOf_size [gb]
                obtain ⟨s1, hs1e⟩ : ∃ s1, strOf [gb] = s1 := ⟨_, rfl⟩
                have HS1 := Lib.hid hs1e
                rw [hs1e] at hconv hs1
                have HCn := Lib.hid (HC.out.below hbn)
                have HLn := Lib.hid (HLB.out.below hbn)
                have HBn := Lib.hid (HBW.out.trans (hbn.mono (by rw [← HB.out]; exact HBW.out.size)))
                clear hsle hgb hbn hln hs1e
                go_wp2
                exact ⟨⟨i + 1, rfl, hlt, by rw [HTK.out, strOf_snoc, HSL.out, HS1.out], HCn, HLn, HBn⟩, by simp only [intOf]; omega⟩
              · obtain rfl : i = s.size := by omega
                have hd2 : decide ((s.size : Int) < s.size) = false := by simp
                have HTK := Lib.hid (show (bytesOf s).take s.size = bytesOf s from List.take_of_length_le (by rw [bytesOf_len]; omega))
                rw [HTK.out]
                obtain ⟨x, hx⟩ : ∃ x, runS m (bytesOf s) = x := ⟨_, rfl⟩
                have HR1 := Lib.hid (HRR.out s (by have := HS60.out; omega) wr HBW.out)
                have HR2 := Lib.hid (HRR.out (strOf ((bytesOf s).map gl)) (by rw [strOf_size, List.length_map, bytesOf_len]; have := HS60.out; omega) wr HBW.out)
                rw [strOf_bytes (fun y hy => by obtain ⟨z, _, rfl⟩ := List.mem_map.1 hy; exact HG256.out z), HRL.out, hx] at HR2
                rw [hx] at HR1
                obtain ⟨tt, htt⟩ : ∃ tt, strOf ((bytesOf s).map gl) = tt := ⟨_, rfl⟩
                rw [htt] at HR2 ⊢
                have hle := HAL.out m.length (Nat.le_refl _)
                rw [HAA.out] at hle
                have hfw := HFW.out
                have h20 := HM20.out
                generalize arcsN m = q at *
                have hw1 : IntKind.i64.wrap ((2 : Int) * q) = 2 * (q : Int) := by rw [IntKind.wrap_i64]; omega
                have hw2 : IntKind.i64.wrap (2 * (q : Int) + 1) = 2 * (q : Int) + 1 := by rw [IntKind.wrap_i64]; omega
                have hd3 : decide ((n : Int) ≤ 2 * (q : Int) + 1) = true := decide_eq_true (by omega)
                clear hx htt hle h20
                go_wp2_with (go_at_call 22; first | ((with_reducible refine HR1.out.mono ?_); rintro e w8 ⟨rfl, e8⟩; subst w8) | ((with_reducible refine HR2.out.mono ?_); rintro e w8 ⟨rfl, e8⟩; subst w8))
                go_ret
                exact ⟨rfl, HBW.out⟩
    · have e1 : decide ((s.size : Int) > 60) = true := decide_eq_true (by omega)
      have e2 : decide ((60 : Int) < s.size) = true := decide_eq_true (by omega)
      have e3 : decide (60 < s.size) = true := decide_eq_true (by omega)
      clear h60 h20
      go_enter Try.func6, Try.ntmps6
      go_wp2_with (go_at_call 7; (with_reducible refine (HAW.out _).mono ?_); rintro e w2 ⟨rfl, hb2⟩; have HBW2 : Hid (Below B0 w w2) := Lib.hid (by rw [← HB.out]; exact hb2); clear hb2)
      go_ret
      exact ⟨rfl, HBW2.out⟩
  · have d1 : decide ((m.length : Int) > 20) = true := decide_eq_true (by omega)
    have d2 : decide ((20 : Int) < m.length) = true := decide_eq_true (by omega)
    have d3 : decide (20 < m.length) = true := decide_eq_true (by omega)
    clear h20
    go_enter Try.func6, Try.ntmps6
    go_wp2_with (go_at_call 7; (with_reducible refine (HAW.out _).mono ?_); rintro e w2 ⟨rfl, hb2⟩; have HBW2 : Hid (Below B0 w w2) := Lib.hid (by rw [← HB.out]; exact hb2); clear hb2)
    go_ret
    exact ⟨rfl, HBW2.out⟩
end Go.Proofs.Ytiikmpgadmmjeaa
