/- Contract: the reference's bytes. -/
import Derived.Test.YtmhjabodhgacnaaPU
import Derived.Test.YtmhjabodhgacnaaXD
set_option maxRecDepth 100000
namespace Go.Proofs.Ytmhjabodhgacnaa
open Go.RowKit

theorem two_at {w : World} {b : Nat} {x y : Nat} (h : w.heap[b]? = some (.cells #[.int .u8 (x : Int), .int .u8 (y : Int)] 5 (0, 0))) : BytesAt w (.slice (some ⟨b, 0, none⟩) 2 2) [x, y] := by
  refine ⟨_, 2, rfl, Nat.le_refl _, fun i hi => ⟨b, 0, rfl, ?_⟩⟩
  have hi2 : i < 2 := hi
  match i, hi2 with
  | 0, _ => exact (cell_of_row _ _ 0 _ _ _ h).trans rfl
  | 1, _ => exact (cell_of_row _ _ 1 _ _ _ h).trans rfl
set_option linter.unusedSimpArgs false in
set_option maxHeartbeats 16000000 in
theorem rbytes_any (v : Value) (m : List Sta) (w : World) (hv : MachAt w v m) (hml : m.length ≤ 4096) (hos : ∀ s ∈ m, OkS s) :
    Calls Try.prog 26 #[v] w fun e w' => e = .returned (.string (strOf (bodyB m))) ∧ Hid (Below w.heap.size w w') := by
  have mixed : Try.prog.follows .mixedOrders = true := by kernel_rfl
  obtain ⟨B, hB⟩ : ∃ B, w.heap.size = B := ⟨_, rfl⟩
  have HB := Lib.hid hB
  have HV := Lib.hid hv
  have HOS := Lib.hid hos
  obtain ⟨av, cv, rfl⟩ := hv.len
  have HNM := Lib.hid (fun (n : Nat) (hn : n < 18446744073709551616) W => rnumber_any n hn W)
  have HN0 := Lib.hid (fun W => rnumber_any m.length (by omega) W)
  have hwr : IntKind.u64.wrap (m.length : Int) = (m.length : Int) := by rw [IntKind.wrap_u64]; omega
  obtain ⟨L0, hL0⟩ : ∃ L0, headB ++ numB m.length = L0 := ⟨_, rfl⟩
  have HBO := Lib.hid (show bodyB m = L0 ++ m.flatMap stB from by rw [← hL0, List.append_assoc]; rfl)
  have HL0 : Hid (L0.length ≤ 14) := Lib.hid (by rw [← hL0, List.length_append]; have := numB_ten (n := m.length) (by omega); show 4 + _ ≤ 14; omega)
  have HS0 := Lib.hid (show (⟨#[68, 70, 65, 49]⟩ : ByteArray) ++ strOf (numB m.length) = strOf L0 from by rw [← hL0, strOf_append]; rfl)
  have HZ0 : Hid ((strOf (numB m.length)).size ≤ 10) := Lib.hid (by rw [strOf_size]; exact numB_ten (by omega))
  obtain ⟨s0, hs0⟩ : ∃ s0, strOf (numB m.length) = s0 := ⟨_, rfl⟩
  rw [hs0] at HN0 HS0 HZ0
  clear hv hos hL0 hs0
  rw [hB]
  go_enter Try.func26, Try.ntmps26
  have hz0 := HZ0.out
  go_wp2_with (go_at_call 14; (with_reducible refine (HN0.out _).mono ?_); rintro e w2 ⟨rfl, hb2⟩)
  clear hz0
  rw [HS0.out]
  have HB2 : Hid (Below B w w2) := Lib.hid (by rw [← HB.out]; exact hb2.out)
  clear hb2
  go_loopw [3, 4] (fun z i wr => ∃ k : Nat, i = .int .i64 k ∧ k ≤ m.length ∧ z = .string (strOf (L0 ++ (m.take k).flatMap stB)) ∧ Hid (Below B w wr)) (fun _ i _ => m.length - (intOf i).toNat)
  case atStart => exact ⟨0, rfl, Nat.zero_le _, by rw [List.take_zero, List.flatMap_nil, List.append_nil], HB2⟩
  case round =>
    clear HB2
    obtain ⟨k, rfl, hk, rfl, HBW⟩ := hrel
    have HLL : Hid ((L0 ++ (m.take k).flatMap stB).length ≤ 14 + 4000 * 4096) := Lib.hid (by
      rw [List.length_append]
      have h1 := flat_le stB 4000 (m.take k) fun x hx => stB_len (HOS.out x (List.mem_of_mem_take hx))
      rw [List.length_take] at h1
      have := HL0.out
      omega)
    by_cases hlt : k < m.length
    · have hd : decide ((k : Int) < m.length) = true := decide_eq_true (by omega)
      have hki : (k : Int) < m.length := by omega
      obtain ⟨b, o, va, rfl, e0, e1, ha⟩ := HV.out.at rfl hlt
      have hbw := HBW.out
      rw [← HB.out] at hbw
      replace e0 := cell_below hbw e0
      replace e1 := cell_below hbw e1
      have HSK := Lib.hid (HOS.out m[k] (List.getElem_mem hlt))
      have HTK := Lib.hid (show L0 ++ (m.take (k + 1)).flatMap stB = (L0 ++ (m.take k).flatMap stB) ++ stB m[k] from by rw [List.take_succ_eq_append_getElem hlt, List.flatMap_append, List.append_assoc]; simp)
      generalize m[k] = s at *
      obtain ⟨L3, hL3⟩ : ∃ L3, L0 ++ (m.take k).flatMap stB = L3 := ⟨_, rfl⟩
      rw [hL3] at HTK HLL ⊢
      clear hL3
      have HA := Lib.hid (fun W (hW : Below B w W) => ha.below (by rw [HB.out]; exact hW))
      obtain ⟨aa, ca, rfl⟩ := ha.len
      obtain ⟨acc, arcs⟩ := s
      dsimp only at *
      have hacc : acc < 18446744073709551616 := HSK.out.1
      have hal : arcs.length ≤ 256 := HSK.out.2.1
      have HOA : Hid (∀ a ∈ arcs, OkA a) := Lib.hid HSK.out.2.2
      have HNA := Lib.hid (HNM.out acc hacc)
      have HNL := Lib.hid (HNM.out arcs.length (by omega))
      have HZA : Hid ((strOf (numB acc)).size ≤ 10) := Lib.hid (by rw [strOf_size]; exact numB_ten hacc)
      have HZL : Hid ((strOf (numB arcs.length)).size ≤ 10) := Lib.hid (by rw [strOf_size]; exact numB_ten (by omega))
      have HZ3 : Hid ((strOf L3).size ≤ 20000000) := Lib.hid (by rw [strOf_size]; have := HLL.out; omega)
      have HS4 := Lib.hid (show strOf L3 ++ (strOf (numB acc) ++ strOf (numB arcs.length)) = strOf (L3 ++ (numB acc ++ numB arcs.length)) from by rw [strOf_append, strOf_append])
      have HST := Lib.hid (show stB ⟨acc, arcs⟩ = (numB acc ++ numB arcs.length) ++ arcs.flatMap arB from by unfold stB; rw [List.append_assoc])
      have hwl : IntKind.u64.wrap (arcs.length : Int) = (arcs.length : Int) := by rw [IntKind.wrap_u64]; omega
      have HL4 : Hid ((L3 ++ (numB acc ++ numB arcs.length)).length ≤ 14 + 4000 * 4096 + 20) := Lib.hid (by rw [List.length_append, List.length_append]; have := numB_ten hacc; have := numB_ten (n := arcs.length) (by omega); have := HLL.out; omega)
      obtain ⟨s3, hs3⟩ : ∃ s3, strOf L3 = s3 := ⟨_, rfl⟩
      have HS3E := Lib.hid hs3
      obtain ⟨sa, hsa⟩ : ∃ sa, strOf (numB acc) = sa := ⟨_, rfl⟩
      obtain ⟨sl, hsl⟩ : ∃ sl, strOf (numB arcs.length) = sl := ⟨_, rfl⟩
      rw [hs3, hsa, hsl] at HS4
      rw [hs3] at HZ3 ⊢
      rw [hsa] at HZA HNA
      rw [hsl] at HZL HNL
      obtain ⟨L4, hL4⟩ : ∃ L4, L3 ++ (numB acc ++ numB arcs.length) = L4 := ⟨_, rfl⟩
      have HL4E := Lib.hid hL4
      rw [hL4] at HS4 HL4
      clear hL4 hs3 hsa hsl hacc ha hbw
      go_upto_region 5 with fail
      refine region_goes 18 18 rfl (fun W => Below wr.heap.size wr W) mixed (Below.refl _ _).drew (fun hHeld => ?_)
      refine goes_take0 (i := 0) (v := ?gwp1) rfl (by kernel_rfl) (by kernel_rfl) (by kernel_rfl) rfl (fun _ _ _ h => h) (Or.inl ⟨by rfl, ?gxp1⟩) (by assumption) ?gqp1
      case gxp1 => (intro W9 _; first | (go_simp; done) | (go_simp; with_reducible rfl))
      simp only [Act.put, List.getElem_toArray, List.getElem_cons_succ, List.getElem_cons_zero, List.setIfInBounds_toArray, List.set_cons_zero, List.set_cons_succ]
      refine goes_take0 (i := 1) (v := ?gwp2) rfl (by kernel_rfl) (by kernel_rfl) (by kernel_rfl) rfl (fun _ _ _ h => h) (Or.inl ⟨by rfl, ?gxp2⟩) (by assumption) ?gqp2
      case gxp2 => (intro W9 _; first | (go_simp; done) | (go_simp; with_reducible rfl))
      simp only [Act.put, List.getElem_toArray, List.getElem_cons_succ, List.getElem_cons_zero, List.setIfInBounds_toArray, List.set_cons_zero, List.set_cons_succ]
      refine goes_take0 (i := 2) (v := ?gwp3) rfl (by kernel_rfl) (by kernel_rfl) (by kernel_rfl) rfl (fun _ _ _ h => h) (Or.inl ⟨by rfl, ?gxp3⟩) (by assumption) ?gqp3
      case gxp3 => (intro W9 _; first | (go_simp; done) | (go_simp; with_reducible rfl))
      simp only [Act.put, List.getElem_toArray, List.getElem_cons_succ, List.getElem_cons_zero, List.setIfInBounds_toArray, List.set_cons_zero, List.set_cons_succ]
      refine goes_take0 (i := 3) (v := ?gwp4) rfl (by kernel_rfl) (by kernel_rfl) (by kernel_rfl) rfl (fun _ _ _ h => h) (Or.inl ⟨by rfl, ?gxp4⟩) (by assumption) ?gqp4
      case gxp4 => (intro W9 _; first | (go_simp; done) | (go_simp; with_reducible rfl))
      simp only [Act.put, List.getElem_toArray, List.getElem_cons_succ, List.getElem_cons_zero, List.setIfInBounds_toArray, List.set_cons_zero, List.set_cons_succ]
      refine goes_take0 (i := 4) (v := ?gwp5) rfl (by kernel_rfl) (by kernel_rfl) (by kernel_rfl) rfl (fun _ _ _ h => h) (Or.inl ⟨by rfl, ?gxp5⟩) (by assumption) ?gqp5
      case gxp5 => (intro W9 _; first | (go_simp; done) | (go_simp; with_reducible rfl))
      simp only [Act.put, List.getElem_toArray, List.getElem_cons_succ, List.getElem_cons_zero, List.setIfInBounds_toArray, List.set_cons_zero, List.set_cons_succ]
      refine goes_take0 (i := 5) (v := .int .u64 acc) rfl (by kernel_rfl) (by kernel_rfl) (by kernel_rfl) rfl (fun _ _ _ h => h) (Or.inl ⟨by rfl, ?gxp6⟩) (by assumption) ?gqp6
      case gxp6 => (intro W9 hW9; have c9 := cell_below hW9 e0; first | (go_simp; done) | (go_simp; with_reducible rfl))
      simp only [Act.put, List.getElem_toArray, List.getElem_cons_succ, List.getElem_cons_zero, List.setIfInBounds_toArray, List.set_cons_zero, List.set_cons_succ]
      refine goes_take0 (i := 7) (v := ?gwp7) rfl (by kernel_rfl) (by kernel_rfl) (by kernel_rfl) rfl (fun _ _ _ h => h) (Or.inl ⟨by rfl, ?gxp7⟩) (by assumption) ?gqp7
      case gxp7 => (intro W9 _; first | (go_simp; done) | (go_simp; with_reducible rfl))
      simp only [Act.put, List.getElem_toArray, List.getElem_cons_succ, List.getElem_cons_zero, List.setIfInBounds_toArray, List.set_cons_zero, List.set_cons_succ]
      refine goes_take0 (i := 8) (v := ?gwp8) rfl (by kernel_rfl) (by kernel_rfl) (by kernel_rfl) rfl (fun _ _ _ h => h) (Or.inl ⟨by rfl, ?gxp8⟩) (by assumption) ?gqp8
      case gxp8 => (intro W9 _; first | (go_simp; done) | (go_simp; with_reducible rfl))
      simp only [Act.put, List.getElem_toArray, List.getElem_cons_succ, List.getElem_cons_zero, List.setIfInBounds_toArray, List.set_cons_zero, List.set_cons_succ]
      refine goes_take0 (i := 9) (v := ?gwp9) rfl (by kernel_rfl) (by kernel_rfl) (by kernel_rfl) rfl (fun _ _ _ h => h) (Or.inl ⟨by rfl, ?gxp9⟩) (by assumption) ?gqp9
      case gxp9 => (intro W9 _; first | (go_simp; done) | (go_simp; with_reducible rfl))
      simp only [Act.put, List.getElem_toArray, List.getElem_cons_succ, List.getElem_cons_zero, List.setIfInBounds_toArray, List.set_cons_zero, List.set_cons_succ]
      refine goes_take0 (i := 10) (v := ?gwp10) rfl (by kernel_rfl) (by kernel_rfl) (by kernel_rfl) rfl (fun _ _ _ h => h) (Or.inl ⟨by rfl, ?gxp10⟩) (by assumption) ?gqp10
      case gxp10 => (intro W9 _; first | (go_simp; done) | (go_simp; with_reducible rfl))
      simp only [Act.put, List.getElem_toArray, List.getElem_cons_succ, List.getElem_cons_zero, List.setIfInBounds_toArray, List.set_cons_zero, List.set_cons_succ]
      refine goes_take0 (i := 11) (v := .slice aa arcs.length ca) rfl (by kernel_rfl) (by kernel_rfl) (by kernel_rfl) rfl (fun _ _ _ h => h) (Or.inl ⟨by rfl, ?gxp11⟩) (by assumption) ?gqp11
      case gxp11 => (intro W9 hW9; have c9 := cell_below hW9 e1; first | (go_simp; done) | (go_simp; with_reducible rfl))
      simp only [Act.put, List.getElem_toArray, List.getElem_cons_succ, List.getElem_cons_zero, List.setIfInBounds_toArray, List.set_cons_zero, List.set_cons_succ]
      refine goes_take0 (i := 12) (v := ?gwp12) rfl (by kernel_rfl) (by kernel_rfl) (by kernel_rfl) rfl (fun _ _ _ h => h) (Or.inl ⟨by rfl, ?gxp12⟩) (by assumption) ?gqp12
      case gxp12 => (intro W9 _; first | (go_simp; done) | (go_simp; with_reducible rfl))
      simp only [Act.put, List.getElem_toArray, List.getElem_cons_succ, List.getElem_cons_zero, List.setIfInBounds_toArray, List.set_cons_zero, List.set_cons_succ]
      refine goes_take0 (i := 13) (v := .int .u64 arcs.length) rfl (by kernel_rfl) (by kernel_rfl) (by kernel_rfl) rfl (fun _ _ _ h => h) (Or.inl ⟨by rfl, ?gxp13⟩) (by assumption) ?gqp13
      case gxp13 => (intro W9 _; have e9 := hwl; first | (go_simp; done) | (go_simp; with_reducible rfl))
      simp only [Act.put, List.getElem_toArray, List.getElem_cons_succ, List.getElem_cons_zero, List.setIfInBounds_toArray, List.set_cons_zero, List.set_cons_succ]
      refine goes_one (i := 6) (by kernel_rfl) rfl (fun K9 hK9 => ?_)
      go_simp
      with_reducible refine (HNA.out _).mono ?_
      rintro e w5 ⟨rfl, hb5⟩
      have hAnw5 := hHeld.trans ((hb5.out).mono hHeld.size)
      refine hK9.out _ _ (fun _ => hAnw5) (fun _ => ?_)
      clear hK9 K9 hHeld
      refine Goes.more (S2 := fun W => Below w5.heap.size w5 W) (fun W h => hAnw5.trans (h.mono hAnw5.size)) ?_
      have hHeld := Below.refl w5.heap.size w5
      refine goes_one (i := 14) (by kernel_rfl) rfl (fun K9 hK9 => ?_)
      go_simp
      with_reducible refine (HNL.out _).mono ?_
      rintro e w6 ⟨rfl, hb6⟩
      have hAnw6 := hHeld.trans ((hb6.out).mono hHeld.size)
      refine hK9.out _ _ (fun _ => hAnw6) (fun _ => ?_)
      clear hK9 K9 hHeld
      refine Goes.more (S2 := fun W => Below w6.heap.size w6 W) (fun W h => hAnw6.trans (h.mono hAnw6.size)) ?_
      have hHeld := Below.refl w6.heap.size w6
      refine goes_take0 (i := 15) (v := .string (sa ++ sl)) rfl (by kernel_rfl) (by kernel_rfl) (by kernel_rfl) rfl (fun _ _ _ h => h) (Or.inl ⟨by rfl, ?gxp14⟩) (by assumption) ?gqp14
      case gxp14 => (intro W9 _; have h1 := HZA.out; have h2 := HZL.out; have h3 := HZ3.out; first | (go_simp; done) | (go_simp; simp only [ByteArray.size_append]; omega) | (go_simp; omega))
      simp only [Act.put, List.getElem_toArray, List.getElem_cons_succ, List.getElem_cons_zero, List.setIfInBounds_toArray, List.set_cons_zero, List.set_cons_succ]
      refine goes_take0 (i := 16) (v := .string (s3 ++ (sa ++ sl))) rfl (by kernel_rfl) (by kernel_rfl) (by kernel_rfl) rfl (fun _ _ _ h => h) (Or.inl ⟨by rfl, ?gxp15⟩) (by assumption) ?gqp15
      case gxp15 => (intro W9 _; have h1 := HZA.out; have h2 := HZL.out; have h3 := HZ3.out; first | (go_simp; done) | (go_simp; simp only [ByteArray.size_append]; omega) | (go_simp; omega))
      simp only [Act.put, List.getElem_toArray, List.getElem_cons_succ, List.getElem_cons_zero, List.setIfInBounds_toArray, List.set_cons_zero, List.set_cons_succ]
      refine goes_take0 (i := 17) (v := ?gwp16) rfl (by kernel_rfl) (by kernel_rfl) (by kernel_rfl) rfl (fun _ _ _ h => h) (Or.inl ⟨by rfl, ?gxp16⟩) (by assumption) ?gqp16
      case gxp16 => (intro W9 _; first | (go_simp; done) | (go_simp; with_reducible rfl))
      simp only [Act.put, List.getElem_toArray, List.getElem_cons_succ, List.getElem_cons_zero, List.setIfInBounds_toArray, List.set_cons_zero, List.set_cons_succ]
      refine goes_done (by kernel_rfl) ?_ _
      go_wp2_with fail
      rw [HS4.out]
      have HB7 : Hid (Below B w w6) := Lib.hid (HBW.out.trans ((hAnw5.trans (hAnw6.mono hAnw5.size)).mono (by rw [← HB.out]; exact HBW.out.size)))
      clear e0 hwl
      have e1 := cell_below (hAnw5.trans (hAnw6.mono hAnw5.size)) e1
      have E1 := Lib.hid e1
      clear e1 hAnw5 hAnw6 hb5 hb6 HNA HNL HZA HZL HZ3 HBW
      go_loopw [3, 5] (fun z i wq => ∃ j : Nat, i = .int .i64 j ∧ j ≤ arcs.length ∧ z = .string (strOf (L4 ++ (arcs.take j).flatMap arB)) ∧ Hid (Below w6.heap.size w6 wq) ∧ Hid (Below B w wq)) (fun _ i _ => arcs.length - (intOf i).toNat)
      case atStart => exact ⟨0, rfl, Nat.zero_le _, by rw [List.take_zero, List.flatMap_nil, List.append_nil], Lib.hid (Below.refl _ _), HB7⟩
      case round =>
        clear HB7
        obtain ⟨j, rfl, hj, rfl, HW6, HBQ⟩ := hrel
        have HLJ : Hid ((L4 ++ (arcs.take j).flatMap arB).length ≤ 14 + 4000 * 4096 + 20 + 12 * 256) := Lib.hid (by
          rw [List.length_append]
          have h1 := flat_le arB 12 (arcs.take j) fun x hx => arB_len (HOA.out x (List.mem_of_mem_take hx))
          rw [List.length_take] at h1
          have := HL4.out
          omega)
        have e1 := cell_below HW6.out E1.out
        by_cases hjl : j < arcs.length
        · have hd2 : decide ((j : Int) < arcs.length) = true := decide_eq_true (by omega)
          have hji : (j : Int) < arcs.length := by omega
          obtain ⟨b2, o2, rfl, f0, f1, f2⟩ := (HA.out wr HBQ.out).at rfl hjl
          have HOK := Lib.hid (HOA.out arcs[j] (List.getElem_mem hjl))
          have HTJ := Lib.hid (show L4 ++ (arcs.take (j + 1)).flatMap arB = (L4 ++ (arcs.take j).flatMap arB) ++ arB arcs[j] from by rw [List.take_succ_eq_append_getElem hjl, List.flatMap_append, List.append_assoc]; simp)
          generalize arcs[j] = x at *
          obtain ⟨L5, hL5⟩ : ∃ L5, L4 ++ (arcs.take j).flatMap arB = L5 := ⟨_, rfl⟩
          rw [hL5] at HTJ HLJ ⊢
          clear hL5
          obtain ⟨lo, hi, d0⟩ := x
          obtain ⟨d, rfl⟩ : ∃ d : Nat, d0 = d := ⟨d0.toNat, by have := HOK.out.2.2.1; simp only [] at this; omega⟩
          dsimp only at f0 f1 f2
          have hd64 : d < 18446744073709551616 := by have := HOK.out.2.2.2; simp only [] at this; omega
          have HWD : Hid (IntKind.u64.wrap (d : Int) = (d : Int)) := Lib.hid (by rw [IntKind.wrap_u64]; omega)
          have HND := Lib.hid (HNM.out d hd64)
          have HAR := Lib.hid (show strOf L5 ++ (strOf [lo, hi] ++ strOf (numB d)) = strOf (L5 ++ arB ⟨lo, hi, (d : Int)⟩) from by rw [strOf_append, show arB ⟨lo, hi, (d : Int)⟩ = [lo, hi] ++ numB d from rfl, strOf_append])
          have HZ5 : Hid ((strOf L5).size ≤ 20000000) := Lib.hid (by rw [strOf_size]; have := HLJ.out; omega)
          have HZ2 : Hid ((strOf [lo, hi]).size = 2) := Lib.hid (by rw [strOf_size]; rfl)
          have HZD : Hid ((strOf (numB d)).size ≤ 10) := Lib.hid (by rw [strOf_size]; exact numB_ten hd64)
          obtain ⟨s5, hs5⟩ : ∃ s5, strOf L5 = s5 := ⟨_, rfl⟩
          obtain ⟨s2, hs2⟩ : ∃ s2, strOf [lo, hi] = s2 := ⟨_, rfl⟩
          obtain ⟨sd, hsd⟩ : ∃ sd, strOf (numB d) = sd := ⟨_, rfl⟩
          have HS2E := Lib.hid hs2
          rw [hs5, hs2, hsd] at HAR
          rw [hs5] at HZ5 ⊢
          rw [hs2] at HZ2
          rw [hsd] at HZD HND
          obtain ⟨Q, hQ⟩ : ∃ Q, wr.heap.size = Q := ⟨_, rfl⟩
          obtain ⟨wa, hwa⟩ : ∃ wa, wr.alloc (.cells #[.int .u8 lo, .int .u8 hi, .int .i64 d] 69) = wa := ⟨_, rfl⟩
          have HXA : Hid (wa.heap[Q]? = some (.cells #[.int .u8 lo, .int .u8 hi, .int .i64 d] 69 (0, 0))) := Lib.hid (by rw [← hwa, ← hQ]; exact heap_alloc_new wr _)
          have HBA : Hid (Below wr.heap.size wr wa) := Lib.hid (by rw [← hwa]; exact new_one wr _)
          have g0 := (cell_of_row wa Q 0 _ _ _ HXA.out).trans rfl
          have g1 := (cell_of_row wa Q 1 _ _ _ HXA.out).trans rfl
          have g2 := (cell_of_row wa Q 2 _ _ _ HXA.out).trans rfl
          clear hs5 hs2 hsd hd64
          go_upto_region 10 with fail
          clear f0 f1 f2 hwa
          have HQN := Lib.hid hQ
          clear hQ
          refine region_goes 14 14 rfl (fun W => Below wa.heap.size wa W) mixed (Below.refl _ _).drew (fun hHeld => ?_)
          refine goes_take0 (i := 0) (v := ?gwq1) rfl (by kernel_rfl) (by kernel_rfl) (by kernel_rfl) rfl (fun _ _ _ h => h) (Or.inl ⟨by rfl, ?gxq1⟩) (by assumption) ?gqq1
          case gxq1 => (intro W9 _; first | (go_simp; done) | (go_simp; with_reducible rfl))
          simp only [Act.put, List.getElem_toArray, List.getElem_cons_succ, List.getElem_cons_zero, List.setIfInBounds_toArray, List.set_cons_zero, List.set_cons_succ]
          refine goes_take0 (i := 1) (v := ?gwq2) rfl (by kernel_rfl) (by kernel_rfl) (by kernel_rfl) rfl (fun _ _ _ h => h) (Or.inl ⟨by rfl, ?gxq2⟩) (by assumption) ?gqq2
          case gxq2 => (intro W9 _; first | (go_simp; done) | (go_simp; with_reducible rfl))
          simp only [Act.put, List.getElem_toArray, List.getElem_cons_succ, List.getElem_cons_zero, List.setIfInBounds_toArray, List.set_cons_zero, List.set_cons_succ]
          refine goes_take0 (i := 2) (v := .int .u8 lo) rfl (by kernel_rfl) (by kernel_rfl) (by kernel_rfl) rfl (fun _ _ _ h => h) (Or.inl ⟨by rfl, ?gxq3⟩) (by assumption) ?gqq3
          case gxq3 => (intro W9 hW9; have c9 := cell_below hW9 g0; first | (go_simp; done) | (go_simp; with_reducible rfl))
          simp only [Act.put, List.getElem_toArray, List.getElem_cons_succ, List.getElem_cons_zero, List.setIfInBounds_toArray, List.set_cons_zero, List.set_cons_succ]
          refine goes_take0 (i := 3) (v := ?gwq4) rfl (by kernel_rfl) (by kernel_rfl) (by kernel_rfl) rfl (fun _ _ _ h => h) (Or.inl ⟨by rfl, ?gxq4⟩) (by assumption) ?gqq4
          case gxq4 => (intro W9 _; first | (go_simp; done) | (go_simp; with_reducible rfl))
          simp only [Act.put, List.getElem_toArray, List.getElem_cons_succ, List.getElem_cons_zero, List.setIfInBounds_toArray, List.set_cons_zero, List.set_cons_succ]
          refine goes_take0 (i := 4) (v := .int .u8 hi) rfl (by kernel_rfl) (by kernel_rfl) (by kernel_rfl) rfl (fun _ _ _ h => h) (Or.inl ⟨by rfl, ?gxq5⟩) (by assumption) ?gqq5
          case gxq5 => (intro W9 hW9; have c9 := cell_below hW9 g1; first | (go_simp; done) | (go_simp; with_reducible rfl))
          simp only [Act.put, List.getElem_toArray, List.getElem_cons_succ, List.getElem_cons_zero, List.setIfInBounds_toArray, List.set_cons_zero, List.set_cons_succ]
          refine goes_take0 (i := 7) (v := ?gwq6) rfl (by kernel_rfl) (by kernel_rfl) (by kernel_rfl) rfl (fun _ _ _ h => h) (Or.inl ⟨by rfl, ?gxq6⟩) (by assumption) ?gqq6
          case gxq6 => (intro W9 _; first | (go_simp; done) | (go_simp; with_reducible rfl))
          simp only [Act.put, List.getElem_toArray, List.getElem_cons_succ, List.getElem_cons_zero, List.setIfInBounds_toArray, List.set_cons_zero, List.set_cons_succ]
          refine goes_take0 (i := 8) (v := .int .i64 d) rfl (by kernel_rfl) (by kernel_rfl) (by kernel_rfl) rfl (fun _ _ _ h => h) (Or.inl ⟨by rfl, ?gxq7⟩) (by assumption) ?gqq7
          case gxq7 => (intro W9 hW9; have c9 := cell_below hW9 g2; first | (go_simp; done) | (go_simp; with_reducible rfl))
          simp only [Act.put, List.getElem_toArray, List.getElem_cons_succ, List.getElem_cons_zero, List.setIfInBounds_toArray, List.set_cons_zero, List.set_cons_succ]
          refine goes_take0 (i := 9) (v := .int .u64 d) rfl (by kernel_rfl) (by kernel_rfl) (by kernel_rfl) rfl (fun _ _ _ h => h) (Or.inl ⟨by rfl, ?gxq8⟩) (by assumption) ?gqq8
          case gxq8 => (intro W9 _; have e9 := HWD.out; first | (go_simp; done) | (go_simp; with_reducible rfl))
          simp only [Act.put, List.getElem_toArray, List.getElem_cons_succ, List.getElem_cons_zero, List.setIfInBounds_toArray, List.set_cons_zero, List.set_cons_succ]
          refine goes_two (i := 5) (j := 10) (by kernel_rfl) rfl rfl (fun K9 hK9 => ?_) (fun K9 hK9 => ?_)
          · skip
            go_simp
            have hb := (new_one wa (.cells #[.int .u8 lo, .int .u8 hi] 5)).drew
            have hNewwc : ((wa).alloc (.cells #[.int .u8 lo, .int .u8 hi] 5)).drew.heap[wa.heap.size]? = _ := heap_alloc_new wa (.cells #[.int .u8 lo, .int .u8 hi] 5)
            obtain ⟨wc, hW⟩ : ∃ z, ((wa).alloc (.cells #[.int .u8 lo, .int .u8 hi] 5)).drew = z := ⟨_, rfl⟩
            rw [hW] at hb hNewwc
            try rw [hW]
            have hAnwc := hb
            refine hK9.out _ _ (fun _ => hAnwc) (fun _ => ?_)
            clear hK9 K9 hHeld hb hW
            refine Goes.more (S2 := fun W => Below wc.heap.size wc W) (fun W h => hAnwc.trans (h.mono hAnwc.size)) ?_
            have hHeld := Below.refl wc.heap.size wc
            refine goes_take0 (i := 6) (v := .string s2) rfl (by kernel_rfl) (by kernel_rfl) (by kernel_rfl) rfl (fun _ _ _ h => h) (Or.inl ⟨by rfl, ?gxqa1⟩) (by assumption) ?gqqa1
            case gxqa1 => (intro W9 hW9; have hc := conv_bytes ((two_at hNewwc).below hW9); rw [HS2E.out] at hc; first | (go_simp; done) | (go_simp; with_reducible rfl))
            simp only [Act.put, List.getElem_toArray, List.getElem_cons_succ, List.getElem_cons_zero, List.setIfInBounds_toArray, List.set_cons_zero, List.set_cons_succ]
            refine goes_one (i := 10) (by kernel_rfl) rfl (fun K9 hK9 => ?_)
            go_simp
            with_reducible refine (HND.out _).mono ?_
            rintro e wd ⟨rfl, hb8⟩
            have hAnwd := hHeld.trans ((hb8.out).mono hHeld.size)
            refine hK9.out _ _ (fun _ => hAnwd) (fun _ => ?_)
            clear hK9 K9 hHeld
            refine Goes.more (S2 := fun W => Below wd.heap.size wd W) (fun W h => hAnwd.trans (h.mono hAnwd.size)) ?_
            have hHeld := Below.refl wd.heap.size wd
            refine goes_take0 (i := 11) (v := .string (s2 ++ sd)) rfl (by kernel_rfl) (by kernel_rfl) (by kernel_rfl) rfl (fun _ _ _ h => h) (Or.inl ⟨by rfl, ?gxqa2⟩) (by assumption) ?gqqa2
            case gxqa2 => (intro W9 _; have h1 := HZ2.out; have h2 := HZD.out; have h3 := HZ5.out; first | (go_simp; done) | (go_simp; simp only [ByteArray.size_append]; omega) | (go_simp; omega))
            simp only [Act.put, List.getElem_toArray, List.getElem_cons_succ, List.getElem_cons_zero, List.setIfInBounds_toArray, List.set_cons_zero, List.set_cons_succ]
            refine goes_take0 (i := 12) (v := .string (s5 ++ (s2 ++ sd))) rfl (by kernel_rfl) (by kernel_rfl) (by kernel_rfl) rfl (fun _ _ _ h => h) (Or.inl ⟨by rfl, ?gxqa3⟩) (by assumption) ?gqqa3
            case gxqa3 => (intro W9 _; have h1 := HZ2.out; have h2 := HZD.out; have h3 := HZ5.out; first | (go_simp; done) | (go_simp; simp only [ByteArray.size_append]; omega) | (go_simp; omega))
            simp only [Act.put, List.getElem_toArray, List.getElem_cons_succ, List.getElem_cons_zero, List.setIfInBounds_toArray, List.set_cons_zero, List.set_cons_succ]
            refine goes_take0 (i := 13) (v := ?gwqa4) rfl (by kernel_rfl) (by kernel_rfl) (by kernel_rfl) rfl (fun _ _ _ h => h) (Or.inl ⟨by rfl, ?gxqa4⟩) (by assumption) ?gqqa4
            case gxqa4 => (intro W9 _; first | (go_simp; done) | (go_simp; with_reducible rfl))
            simp only [Act.put, List.getElem_toArray, List.getElem_cons_succ, List.getElem_cons_zero, List.setIfInBounds_toArray, List.set_cons_zero, List.set_cons_succ]
            refine goes_done (by kernel_rfl) ?_ _
            go_wp2_with fail
            have HE8 : Hid (Below wr.heap.size wr wd) := Lib.hid (HBA.out.trans ((hAnwc.trans (hAnwd.mono hAnwc.size)).mono HBA.out.size))
            exact ⟨⟨j + 1, rfl, hjl, by rw [HTJ.out, HAR.out], Lib.hid (HW6.out.trans (HE8.out.mono HW6.out.size)), Lib.hid (HBQ.out.trans (HE8.out.mono (by rw [← HB.out]; exact HBQ.out.size)))⟩, by simp only [intOf]; omega⟩
          · skip
            go_simp
            with_reducible refine (HND.out _).mono ?_
            rintro e wc ⟨rfl, hb8⟩
            have hAnwc := hHeld.trans ((hb8.out).mono hHeld.size)
            refine hK9.out _ _ (fun _ => hAnwc) (fun _ => ?_)
            clear hK9 K9 hHeld
            refine Goes.more (S2 := fun W => Below wc.heap.size wc W) (fun W h => hAnwc.trans (h.mono hAnwc.size)) ?_
            have hHeld := Below.refl wc.heap.size wc
            refine goes_one (i := 5) (by kernel_rfl) rfl (fun K9 hK9 => ?_)
            go_simp
            have hb := new_one wc (.cells #[.int .u8 lo, .int .u8 hi] 5)
            have hNewwd := heap_alloc_new wc (.cells #[.int .u8 lo, .int .u8 hi] 5)
            obtain ⟨wd, hW⟩ : ∃ z, (wc).alloc (.cells #[.int .u8 lo, .int .u8 hi] 5) = z := ⟨_, rfl⟩
            rw [hW] at hb hNewwd
            try rw [hW]
            have hAnwd := hHeld.trans (hb.mono hHeld.size)
            refine hK9.out _ _ (fun _ => hAnwd) (fun _ => ?_)
            clear hK9 K9 hHeld hb hW
            refine Goes.more (S2 := fun W => Below wd.heap.size wd W) (fun W h => hAnwd.trans (h.mono hAnwd.size)) ?_
            have hHeld := Below.refl wd.heap.size wd
            refine goes_take0 (i := 6) (v := .string s2) rfl (by kernel_rfl) (by kernel_rfl) (by kernel_rfl) rfl (fun _ _ _ h => h) (Or.inl ⟨by rfl, ?gxqb1⟩) (by assumption) ?gqqb1
            case gxqb1 => (intro W9 hW9; have hc := conv_bytes ((two_at hNewwd).below hW9); rw [HS2E.out] at hc; first | (go_simp; done) | (go_simp; with_reducible rfl))
            simp only [Act.put, List.getElem_toArray, List.getElem_cons_succ, List.getElem_cons_zero, List.setIfInBounds_toArray, List.set_cons_zero, List.set_cons_succ]
            refine goes_take0 (i := 11) (v := .string (s2 ++ sd)) rfl (by kernel_rfl) (by kernel_rfl) (by kernel_rfl) rfl (fun _ _ _ h => h) (Or.inl ⟨by rfl, ?gxqb2⟩) (by assumption) ?gqqb2
            case gxqb2 => (intro W9 _; have h1 := HZ2.out; have h2 := HZD.out; have h3 := HZ5.out; first | (go_simp; done) | (go_simp; simp only [ByteArray.size_append]; omega) | (go_simp; omega))
            simp only [Act.put, List.getElem_toArray, List.getElem_cons_succ, List.getElem_cons_zero, List.setIfInBounds_toArray, List.set_cons_zero, List.set_cons_succ]
            refine goes_take0 (i := 12) (v := .string (s5 ++ (s2 ++ sd))) rfl (by kernel_rfl) (by kernel_rfl) (by kernel_rfl) rfl (fun _ _ _ h => h) (Or.inl ⟨by rfl, ?gxqb3⟩) (by assumption) ?gqqb3
            case gxqb3 => (intro W9 _; have h1 := HZ2.out; have h2 := HZD.out; have h3 := HZ5.out; first | (go_simp; done) | (go_simp; simp only [ByteArray.size_append]; omega) | (go_simp; omega))
            simp only [Act.put, List.getElem_toArray, List.getElem_cons_succ, List.getElem_cons_zero, List.setIfInBounds_toArray, List.set_cons_zero, List.set_cons_succ]
            refine goes_take0 (i := 13) (v := ?gwqb4) rfl (by kernel_rfl) (by kernel_rfl) (by kernel_rfl) rfl (fun _ _ _ h => h) (Or.inl ⟨by rfl, ?gxqb4⟩) (by assumption) ?gqqb4
            case gxqb4 => (intro W9 _; first | (go_simp; done) | (go_simp; with_reducible rfl))
            simp only [Act.put, List.getElem_toArray, List.getElem_cons_succ, List.getElem_cons_zero, List.setIfInBounds_toArray, List.set_cons_zero, List.set_cons_succ]
            refine goes_done (by kernel_rfl) ?_ _
            go_wp2_with fail
            have HE8 : Hid (Below wr.heap.size wr wd) := Lib.hid (HBA.out.trans ((hAnwc.trans (hAnwd.mono hAnwc.size)).mono HBA.out.size))
            exact ⟨⟨j + 1, rfl, hjl, by rw [HTJ.out, HAR.out], Lib.hid (HW6.out.trans (HE8.out.mono HW6.out.size)), Lib.hid (HBQ.out.trans (HE8.out.mono (by rw [← HB.out]; exact HBQ.out.size)))⟩, by simp only [intOf]; omega⟩
        · have hjj : j = arcs.length := by omega
          have hd2 : decide ((j : Int) < arcs.length) = false := decide_eq_false (by omega)
          have hdn : decide (j < arcs.length) = false := decide_eq_false hjl
          have HT := Lib.hid (show arcs.take j = arcs from by rw [hjj, List.take_length])
          rw [HT.out]
          clear hjj
          go_wp2_with fail
          exact ⟨⟨k + 1, rfl, hlt, by rw [HTK.out, HST.out, ← List.append_assoc, HL4E.out], HBQ⟩, by simp only [intOf]; omega⟩
    · have hkk : k = m.length := by omega
      have hd : decide ((k : Int) < m.length) = false := decide_eq_false (by omega)
      have hdn : decide (k < m.length) = false := decide_eq_false hlt
      have HT := Lib.hid (show m.take k = m from by rw [hkk, List.take_length])
      rw [HT.out, ← HBO.out]
      clear hkk
      go_wp2_with fail
      go_ret
      exact ⟨rfl, HBW⟩
end Go.Proofs.Ytmhjabodhgacnaa
