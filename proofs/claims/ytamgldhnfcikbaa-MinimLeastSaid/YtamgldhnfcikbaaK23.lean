/- Texts that a proof rests on: The contract of the reference's Least. | The law's example: its values. -/
import Derived.Test.YtamgldhnfcikbaaK22
set_option maxRecDepth 100000
namespace Go.Proofs.Ytamgldhnfcikbaa
open List (getElem_toArray getElem_cons_succ getElem_cons_zero setIfInBounds_toArray set_cons_zero set_cons_succ)
open Go.RowKit

theorem gK_range {next : Nat → Nat → Option Nat} {key : Nat → Nat} {L : List Nat} {s : Nat} (hL : L.length < 1000000) (b : Nat) : -9223372036854775808 ≤ gK next key L s b ∧ gK next key L s b < 9223372036854775808 := by
  unfold gK
  cases next s b with
  | none =>
    show -9223372036854775808 ≤ (-1 : Int) ∧ (-1 : Int) < 9223372036854775808
    decide
  | some y =>
    have h : numK key L y ≤ L.length := by
      unfold numK
      have h := List.findIdx_le_length (xs := L.map key) (p := (key y == ·))
      rw [List.length_map] at h; exact h
    show -9223372036854775808 ≤ ((numK key L y : Nat) : Int) ∧ ((numK key L y : Nat) : Int) < _
    omega
def LeastQ (m : List Sta) (N : Nat) (w : World) (e : Ending) (w' : World) : Prop := ∃ u K, e = .returned u ∧ Hid (MachAt w' u K) ∧ Hid (LeastR m K) ∧ Hid (Below N w w')
set_option linter.unusedSimpArgs false in
set_option maxHeartbeats 8000000 in
theorem rleast_any (v : Value) (m : List Sta) (w : World) (hv : MachAt w v m) (hl : ∀ s ∈ m, s.arcs.length < 9223372036854775808) (hm : Mays m) :
    Calls Try.prog 9 #[v] w (LeastQ m w.heap.size w) := by
  have mixed : Try.prog.follows .mixedOrders = true := by kernel_rfl
  obtain ⟨N, hN⟩ : ∃ N, w.heap.size = N := ⟨_, rfl⟩
  have HR := Lib.hid (show Calls Try.prog 24 #[v] w fun e w' => ∃ u, e = .returned u ∧ Hid (MachAt w u (soundS m)) ∧ Hid (Below w.heap.size w w') from right_any v m w hv hl hm)
  have HE : Hid (∀ w : World, MachAt w (.slice none 0 0) []) := Lib.hid MachAt.nil
  by_cases h0 : 0 < (soundS m).length
  · obtain ⟨hs, hf, hn, hl2⟩ := sound_len hm h0
    have h0m : 0 < m.length := by rw [hs] at h0; exact h0
    rw [hs] at HR
    have HS := Lib.hid hs
    have HF := Lib.hid hf
    have HM := Lib.hid hm
    have HL := Lib.hid hl
    clear hv hl hm h0 hs hl2
    have HNX := Lib.hid (fun (u : Value) (wr : World) (hu : MachAt wr u m) (s : Int) (c : Nat) => rnext_any u m s c wr hu HL.out HM.out)
    have HAP := Lib.hid (fun (u : Value) (wr : World) (hu : MachAt wr u m) => apart_any u m wr hu HL.out HM.out (by omega) (fun i hi b hb => by
      by_cases h : i < m.length
      · rcases hf.next i h b hb with e | ⟨y, hy, e⟩ <;> omega
      · unfold nextS; rw [dif_neg (by omega)]; omega))
    obtain ⟨n, hnn⟩ : ∃ n, m.length = n := ⟨_, rfl⟩
    have HNN := Lib.hid hnn
    rw [hnn] at h0m hn
    have e0 : ((n : Int) == 0) = false := by rw [beq_eq_false_iff_ne]; omega
    clear hf hnn
    rw [hN]
    go_enter Try.func9, Try.ntmps9
    go_upto_region 3 with (first
      | (go_at_call 24; refine HR.out.mono ?_; rintro e w1 ⟨u, rfl, hu, hb⟩; have HU1 := Lib.hid (hu.out.below hb.out); have HB1 := Lib.hid hb.out; obtain ⟨ua, uc, rfl⟩ := hu.out.len; clear hu hb)
      | (go_at_call 25; refine (HAP.out _ w1 HU1.out).mono ?_; rintro e w2 ⟨gb, D, he, HG, hD, hgb, HB2⟩; rw [he]; clear he))
    have HU2 := Lib.hid (HU1.out.below HB2.out)
    have HBN : Hid (Below N w w2) := Lib.hid (by
      have e1 := HB1.out.size
      rw [← hN]
      exact HB1.out.trans (HB2.out.mono e1))
    have HD : Hid (TableD m D) := Lib.hid hD.out
    have HAL : Hid (∀ wr, Below w2.heap.size w2 wr → ∀ s : Int, s < n → Calls Try.prog 26 #[.slice (some ⟨gb, 0, none⟩) (n + 1) (n + 1), .int .i64 s] wr fun e w' => e = .returned (.int .i64 (aliasF n D s)) ∧ w' = wr) := Lib.hid (fun wr hb s hs => (alias_any gb n D s wr (by omega) (by omega) (by have h := HG.out.below hb; rw [HNN.out] at h; exact h)).mono fun e w' ⟨r, he, ha, hw⟩ => ⟨by rw [he, alias_uniq ha alias_F], hw⟩)
    have HNS : Hid (∀ wr, Below w2.heap.size w2 wr → ∀ (s : Int) (c : Nat), Calls Try.prog 27 #[.slice ua n uc, .int .i64 s, .int .u8 c] wr fun e w' => e = .returned (.int .i64 (nextS m s c)) ∧ w' = wr) := Lib.hid (fun wr hb s c => by have h := HNX.out _ wr (HU2.out.below hb) s c; rw [HNN.out] at h; exact h)
    clear HR HB1 HU1 HB2 hD hgb HNX HAP
    try rw [HNN.out]
    have hx0 : ((0 : Int)) < m.length := by rw [HNN.out]; omega
    have hc0 := alias_range HD.out hx0
    rw [HNN.out] at hc0
    have HA0 := Lib.hid (HAL.out w2 (Below.refl _ _) 0 (by omega))
    clear hx0
    rcases hc0 with hA0 | ⟨t0, hA0, ht0⟩
    · rw [hA0] at HA0
      have hdn : decide ((-1 : Int) < 0) = true := by decide
      have HLR : Hid (LeastR m []) := Lib.hid (.inr ⟨HS.out, by rw [HNN.out]; exact h0m, D, HD.out, .inl ⟨by rw [HNN.out]; exact hA0, rfl⟩⟩)
      clear hA0
      go_wp2_with (go_at_call 26; refine HA0.out.mono ?_; rintro e w3 ⟨he, rfl⟩; rw [he]; clear he)
      exact bodyPost_ret (v := .slice none 0 0) (by simp [results, Try.results9, go_sem, *]) rfl ⟨_, [], rfl, Lib.hid (HE.out _), HLR, HBN⟩
    · rw [hA0] at HA0
      have hdn : decide ((t0 : Int) < 0) = false := decide_eq_false (by omega)
      have HT0 := Lib.hid hA0
      clear hA0
      go_upto_region 7 with (go_at_call 26; refine HA0.out.mono ?_; rintro e w3 ⟨he, rfl⟩; rw [he]; clear he)
      have hls : LS (w3.alloc (.cells #[.int .i64 (t0 : Nat)] 3)) w3 w3.heap.size (.slice (some ⟨w3.heap.size, 0, none⟩) 1 1) [t0] (.slice none 0 0) [] [] :=
        ⟨own_first w3 t0, RowsM.nil _ _, new_one w3 _, Nat.le_refl _⟩
      obtain ⟨w4, hw4⟩ : ∃ w4, w3.alloc (.cells #[.int .i64 (t0 : Nat)] 3) = w4 := ⟨_, rfl⟩
      rw [hw4] at hls
      try rw [hw4]
      have HLS := Lib.hid hls
      obtain ⟨A, hA⟩ : ∃ A, aliasF n D = A := ⟨_, rfl⟩
      have HAA : Hid (aliasF m.length D = A) := Lib.hid (by rw [HNN.out]; exact hA)
      rw [hA] at HAL HT0
      obtain ⟨B, hB⟩ : ∃ B, w3.heap.size = B := ⟨_, rfl⟩
      rw [hB] at HLS HAL HNS
      try rw [hB]
      have HB := Lib.hid hB
      clear hw4 hls HA0 hA hB hdn
      go_wp2_with fail
      go_loopw [4, 5, 6] (fun x y z wr => ∃ (i ln : Nat) (la oa : Option Addr) (lc oc : Nat), z = .int .i64 i ∧ x = .slice la ln lc ∧ y = .slice oa i oc ∧ i ≤ n ∧ Hid ((walkK (nextR m A) id t0 i).length = ln) ∧ Hid (i ≤ ln) ∧ Hid (∃ vs, LS wr w3 B (.slice la ln lc) (walkK (nextR m A) id t0 i) (.slice oa i oc) vs (leastP (accAt m) (nextR m A) id (walkK (nextR m A) id t0 i) ((walkK (nextR m A) id t0 i).take i)))) (fun _ _ z _ => n + 1 - (intOf z).toNat)
      case atStart => exact ⟨0, 1, _, _, _, _, rfl, rfl, rfl, Nat.zero_le _, Lib.hid rfl, Lib.hid (by omega), Lib.hid ⟨[], HLS.out⟩⟩
      case round =>
        clear HLS
        obtain ⟨i, ln, la, oa, lc, oc, rfl, rfl, rfl, hin, HLN, HIL, HLS⟩ := hrel
        have hnl : ∀ s b y, s < m.length → b < 256 → nextR m A s b = some y → y < m.length := fun s b y hs hb h => by rw [← HAA.out] at h; exact nextR_lt HD.out HF.out hs hb h
        have hLlt := walkK_lt (key := id) (next := nextR m A) (s0 := t0) (n := m.length) (by rw [HNN.out]; exact ht0) hnl i
        have hLnd := walkK_nodup (nextR m A) id t0 i
        have hLn := keys_len hLnd hLlt (fun x hx => hx)
        rw [HNN.out, HLN.out] at hLn
        obtain ⟨vs, hls⟩ := HLS.out
        have HLS1 := Lib.hid hls
        by_cases hlt : i < ln
        · obtain ⟨s, hs⟩ : ∃ s, (walkK (nextR m A) id t0 i)[i]? = some s := ⟨_, List.getElem?_eq_getElem (by rw [HLN.out]; exact hlt)⟩
          have hsm : s < m.length := hLlt s (List.mem_of_getElem? hs)
          have hsn : s < n := by rw [← HNN.out]; exact hsm
          have HST := Lib.hid (leastP_step (acc := accAt m) hs)
          have HWK := Lib.hid (walkK_at hs)
          have HSA := Lib.hid hs
          have HLLT := Lib.hid hLlt
          have HLND := Lib.hid hLnd
          obtain ⟨L, hL⟩ : ∃ L, walkK (nextR m A) id t0 i = L := ⟨_, rfl⟩
          rw [hL] at HST HWK HLS1 HLLT HLND HLN HSA
          have hd : decide ((i : Int) < ln) = true := decide_eq_true (by omega)
          have hki : (i : Int) < ln := by omega
          obtain ⟨M, hM⟩ : ∃ M, leastP (accAt m) (nextR m A) id L (L.take i) = M := ⟨_, rfl⟩
          rw [hM] at HLS1 HST
          have HKLM : Hid (M.length = i) := Lib.hid (by rw [← hM]; unfold leastP; rw [List.length_map, List.length_take, HLN.out]; omega)
          have HIN : Hid (i + 1 ≤ n) := Lib.hid (by omega)
          have HNL := Lib.hid hnl
          clear hls hs hL hM HLS HIL hLlt hLnd hnl hLn hlt
          obtain ⟨T, hT⟩ : ∃ T, wr.heap.size = T := ⟨_, rfl⟩
          have HTB : Hid (B ≤ T) := Lib.hid (by rw [← hT]; exact Nat.le_trans HLS1.out.le HLS1.out.size)
          have hI0 : IBlk (wr.alloc (.cells Try.zeroCells49 49)) T fun _ => 0 := by unfold IBlk; rw [← hT, ← zero_ints]; exact heap_alloc_new wr _
          have hls3 := HLS1.out.below (new_one wr (.cells Try.zeroCells49 49))
          obtain ⟨w5, hw5⟩ : ∃ w5, wr.alloc (.cells Try.zeroCells49 49) = w5 := ⟨_, rfl⟩
          rw [hw5] at hI0 hls3
          have HI5 := Lib.hid hI0
          have HLS5 : Hid (LS w5 w3 B (.slice la ln lc) (rowK (nextR m A) id L s 0) (.slice oa i oc) vs M) := Lib.hid hls3
          go_upto_region 11 with fail
          try rw [hT]
          try rw [hw5]
          clear hw5 hI0 hls3 hT HLS1
          go_wp2_with fail
          go_loopw [4, 8] (fun x z wr => ∃ (j ln : Nat) (la : Option Addr) (lc : Nat), z = .int .i64 j ∧ x = .slice la ln lc ∧ j ≤ 256 ∧ Hid ((rowK (nextR m A) id L s j).length = ln) ∧ Hid (IBlk wr T fun x => if x < j then gK (nextR m A) id (rowK (nextR m A) id L s 256) s x else 0) ∧ Hid (LS wr w3 B (.slice la ln lc) (rowK (nextR m A) id L s j) (.slice oa i oc) vs M)) (fun _ z _ => 256 - (intOf z).toNat)
          case atStart => exact ⟨0, ln, la, lc, rfl, rfl, Nat.zero_le _, HLN, Lib.hid (HI5.out.congr fun x _ => by rw [if_neg (by omega)]), HLS5⟩
          case round =>
            clear HI5 HLS5
            obtain ⟨j, l2, a2, c2, rfl, rfl, hj, HL2, HI, HLS⟩ := hrel
            have hpre : (rowK (nextR m A) id L s j)[i]? = some s := by
              obtain ⟨X, hX⟩ := rowK_more (nextR m A) id L s 0 j
              rw [Nat.zero_add] at hX
              rw [hX, show rowK (nextR m A) id L s 0 = L from rfl]
              exact List.getElem?_append_left (List.getElem?_eq_some_iff.1 HSA.out).1 ▸ HSA.out
            have hil2 : i < l2 := by rw [← HL2.out]; exact (List.getElem?_eq_some_iff.1 hpre).1
            have hili : (i : Int) < l2 := by omega
            obtain ⟨fb, fcc, hfe, hfc⟩ := row_cell HLS.out.row (by rw [HL2.out]; omega)
            have cs : wr.cell? ⟨fb, i, none⟩ = some (.int .i64 (s : Nat)) := hfc i _ (by unfold plcL; rw [List.getElem?_map, hpre]; rfl)
            rw [HL2.out] at hfe
            cases hfe
            have HLj := rowK_lt (n := m.length) (next := nextR m A) (key := id) (s := s) HLLT.out (fun b z hb h => HNL.out s b z hsm hb h) j hj
            have hl2n := keys_len (n := m.length) (rowK_nodup (next := nextR m A) HLND.out s j) HLj (fun x hx => hx)
            rw [HNN.out, HL2.out] at hl2n
            clear HLj
            by_cases hjl : j < 256
            · have hd2 : decide ((j : Int) < 256) = true := decide_eq_true (by omega)
              have hj256 : (j : Int) < 256 := by omega
              have hwj : IntKind.u8.wrap (j : Int) = (j : Int) := by rw [IntKind.wrap_u8]; omega
              have HNXC := Lib.hid (HNS.out wr (by rw [← HB.out]; rw [HB.out]; exact HLS.out.bl) (s : Nat) j)
              have hnx : nextS m (s : Nat) j < n := by
                rw [← HNN.out]
                rcases HF.out.next s hsm j hjl with e | ⟨y, hy, e⟩ <;> omega
              have HALC := Lib.hid (HAL.out wr (by exact HLS.out.bl) _ hnx)
              have HFI : Hid (∀ (v : Value) (L : List Nat) (wr : World), wr.ownsRow B 3 1 v L.length (plcL L) → L.length < 100000 → ∀ y : Nat, Calls Try.prog 28 #[v, .int .i64 y] wr fun e w' => e = .returned (.int .i64 (fndI L y)) ∧ w' = wr) := Lib.hid (fun v L wr h hL y => (rfind_any v (L.map fun x : Nat => (x : Int)) y wr (by rw [List.length_map]; omega) (by rw [List.map_map]; exact rdv_row h (by rw [List.length_map]))).mono fun e w' ⟨r, he, hf, hw⟩ => ⟨by rw [he, find_num hf], hw⟩)
              have hcase := nextR_cases HD.out HF.out hsm hjl
              rw [HAA.out] at hcase
              have c0 := HI.out.cell hjl
              have z0 := free_cells (j := j) HI.out
              have HI6 := Lib.hid (HI.out.set (k := j) (v := -1) (g := fun x => if x < j then gK (nextR m A) id (rowK (nextR m A) id L s 256) s x else if x = j then -1 else 0) (by show (if j < j then _ else _) = _; rw [if_neg (by omega), if_pos rfl]) (fun x _ h1 => by
                show (if x < j then _ else _) = (if x < j then _ else _)
                by_cases h2 : x < j
                · rw [if_pos h2, if_pos h2]
                · rw [if_neg h2, if_neg h2, if_neg h1]))
              have HLS6 := Lib.hid (HLS.out.store (j := j) HI.out HTB.out (.int .i64 (-1)))
              obtain ⟨nx, hnxe⟩ : ∃ nx, nextS m (s : Nat) j = nx := ⟨_, rfl⟩
              rw [hnxe] at HNXC HALC hcase
              clear hnxe hnx hfc hpre
              rcases hcase with ⟨hno, hA9⟩ | ⟨y, hyes, hA9, hy⟩
              · rw [hA9] at HALC
                have hdn : decide ((-1 : Int) < 0) = true := by decide
                have HI7 := Lib.hid (HI6.out.congr (g := fun x => if x < j + 1 then gK (nextR m A) id (rowK (nextR m A) id L s 256) s x else 0) fun x _ => by
                  by_cases h1 : x < j
                  · rw [if_pos h1, if_pos (by omega)]
                  · by_cases h2 : x = j
                    · subst h2; rw [if_neg h1, if_pos rfl, if_pos (by omega), gK_none hno]
                    · rw [if_neg h1, if_neg h2, if_neg (by omega)])
                have HLS7 : Hid (LS (wr.setCell ⟨T, j, none⟩ (.int .i64 (-1))) w3 B (.slice (some ⟨fb, 0, none⟩) l2 c2) (rowK (nextR m A) id L s (j + 1)) (.slice oa i oc) vs M) := Lib.hid (by rw [rowK_no hno]; exact HLS6.out)
                have HL7 : Hid ((rowK (nextR m A) id L s (j + 1)).length = l2) := Lib.hid (by rw [rowK_no hno]; exact HL2.out)
                clear hno hA9 HI6 HLS6
                go_upto_region 16 with (first
                  | (go_at_call 27; refine HNXC.out.mono ?_; rintro e w6 ⟨he, rfl⟩; rw [he]; clear he)
                  | (go_at_call 26; refine HALC.out.mono ?_; rintro e w6 ⟨he, rfl⟩; rw [he]; clear he))
                obtain ⟨w7, hw7⟩ : ∃ w7, w6.setCell ⟨T, j, none⟩ (.int .i64 (-1)) = w7 := ⟨_, rfl⟩
                rw [hw7] at HI7 HLS7
                try rw [hw7]
                clear hw7 c0 z0 cs HI HLS HNXC HALC
                go_wp2
                go_roundw
                case rel => exact ⟨j + 1, l2, _, _, num_succ j, rfl, by omega, HL7, HI7, HLS7⟩
                case measure => simp only [intOf]; omega
              · rw [hA9] at HALC
                have hdn : decide ((y : Int) < 0) = false := decide_eq_false (by omega)
                have HGK := Lib.hid (gK_row (key := id) (L := L) hyes hjl)
                have HRK := Lib.hid (rowK_some (key := id) (L := L) hyes)
                have HI7 : Hid (∀ (W : World) (v : Int), v = (numK id (rowK (nextR m A) id L s (j + 1)) y : Nat) → IBlk W T (fun x => if x < j then gK (nextR m A) id (rowK (nextR m A) id L s 256) s x else if x = j then -1 else 0) → IBlk (W.setCell ⟨T, j, none⟩ (.int .i64 v)) T fun x => if x < j + 1 then gK (nextR m A) id (rowK (nextR m A) id L s 256) s x else 0) := Lib.hid (fun W v hv h => by
                  refine h.set (k := j) (v := v) (by show (if j < j + 1 then _ else _) = _; rw [if_pos (by omega), HGK.out, hv, HRK.out]) fun x _ h1 => ?_
                  show (if x < j then _ else _) = (if x < j + 1 then _ else _)
                  by_cases h2 : x < j
                  · rw [if_pos h2, if_pos (by omega)]
                  · rw [if_neg h2, if_neg h1, if_neg (by omega)])
                clear hyes hA9 hy
                go_upto_region 16 with (first
                  | (go_at_call 27; refine HNXC.out.mono ?_; rintro e w6 ⟨he, rfl⟩; rw [he]; clear he)
                  | (go_at_call 26; refine HALC.out.mono ?_; rintro e w6 ⟨he, rfl⟩; rw [he]; clear he))
                obtain ⟨w7, hw7⟩ : ∃ w7, w6.setCell ⟨T, j, none⟩ (.int .i64 (-1)) = w7 := ⟨_, rfl⟩
                rw [hw7] at HI6 HLS6
                try rw [hw7]
                clear hw7 c0 z0 cs HI HLS HNXC HALC
                obtain ⟨Lj, hLj⟩ : ∃ Lj, rowK (nextR m A) id L s j = Lj := ⟨_, rfl⟩
                rw [hLj] at HL2 HLS6 HRK
                have HF1 := Lib.hid (HFI.out _ Lj w7 HLS6.out.row (by rw [HL2.out]; omega) y)
                by_cases hmem : y ∈ Lj
                · have HPO := Lib.hid (pushK_id_old hmem)
                  have hfv : fndI Lj y = (numK id Lj y : Nat) := by unfold fndI; rw [if_pos hmem]
                  rw [hfv] at HF1
                  obtain ⟨nk, hnk⟩ : ∃ nk, numK id Lj y = nk := ⟨_, rfl⟩
                  rw [hnk] at HF1
                  have hdk : decide ((nk : Int) < 0) = false := decide_eq_false (by omega)
                  have HNK : Hid ((nk : Int) = (numK id (rowK (nextR m A) id L s (j + 1)) y : Nat)) := Lib.hid (by rw [HRK.out, HPO.out, hnk])
                  have c7 := HI6.out.cell hjl
                  have z7 := free_cells (j := j) HI6.out
                  have HI8 := Lib.hid (HI7.out w7 _ HNK.out HI6.out)
                  have HLS8 : Hid (LS (w7.setCell ⟨T, j, none⟩ (.int .i64 (nk : Nat))) w3 B (.slice (some ⟨fb, 0, none⟩) l2 c2) (rowK (nextR m A) id L s (j + 1)) (.slice oa i oc) vs M) := Lib.hid (by rw [HRK.out, HPO.out]; exact HLS6.out.store HI6.out HTB.out _)
                  have HL8 : Hid ((rowK (nextR m A) id L s (j + 1)).length = l2) := Lib.hid (by rw [HRK.out, HPO.out]; exact HL2.out)
                  obtain ⟨w8, hw8⟩ : ∃ w8, w7.setCell ⟨T, j, none⟩ (.int .i64 (nk : Nat)) = w8 := ⟨_, rfl⟩
                  rw [hw8] at HI8 HLS8
                  clear hmem hfv hnk HNK HPO HI7 HI6 HLS6
                  go_upto_region 13 with (go_at_call 28; refine HF1.out.mono ?_; rintro e w9 ⟨he, rfl⟩; rw [he]; clear he)
                  try rw [hw8]
                  clear hw8 c7 z7
                  go_wp2
                  go_roundw
                  case rel => exact ⟨j + 1, l2, _, _, num_succ j, rfl, by omega, HL8, HI8, HLS8⟩
                  case measure => simp only [intOf]; omega
                · have HPO := Lib.hid (pushK_id_new hmem)
                  have hfv : fndI Lj y = -1 := by unfold fndI; rw [if_neg hmem]
                  rw [hfv] at HF1
                  have hdk : decide ((-1 : Int) < 0) = true := by decide
                  obtain ⟨i0, hi0, hz0, hz1, hz2⟩ := info_parts infoI
                  have HIN0 := Lib.hid (And.intro hi0 (And.intro hz0 (And.intro hz1 hz2)))
                  have HNK : Hid (fndI (Lj ++ [y]) y = (numK id (rowK (nextR m A) id L s (j + 1)) y : Nat)) := Lib.hid (by
                    have h := fnd_pushed Lj y
                    rw [HPO.out] at h
                    rw [HRK.out, HPO.out, h])
                  have HROW : Hid (w7.ownsRow B 3 1 (.slice (some ⟨fb, 0, none⟩) l2 c2) l2 (plcL Lj)) := Lib.hid (by have h := HLS6.out.row; rw [HL2.out] at h; exact h)
                  have HRA := Lib.hid (HROW.out.alloc (.cells #[.int .i64 (y : Nat)] 3))
                  have hbw : B ≤ w7.heap.size := Nat.le_trans HLS6.out.le HLS6.out.size
                  clear hmem hfv hi0 hz0 hz1 hz2
                  go_upto_region 19 with (first
                    | (go_at_call 28; refine HF1.out.mono ?_; rintro e w9 ⟨he, rfl⟩; rw [he]; clear he)
                    | (at_builtin; refine wpList_append_lies _ rfl _ _ 44 rfl B 3 i0 (.int .i64 0) 1 8 Try.underlying44 HIN0.out.1 HIN0.out.2.1 HIN0.out.2.2.1 HIN0.out.2.2.2 rfl (by decide) (.slice (some ⟨fb, 0, none⟩) l2 c2) l2 (plcL Lj) rfl HRA.out ⟨w9.heap.size, 0, none⟩ 1 1 [.int .i64 (y : Int)] rfl rfl (news_in (cs := #[.int .i64 (y : Int)]) (heap_alloc_new w9 _)) (by simp [Value.oneCell']) (by decide) (by unfold maxLen; omega) (by omega) (by simp; omega) (w9.heap.size + 1) (by simp) ?_; intro g9 cap2 w8 h2 h3 h4 h5; have HP2 := Lib.hid h2; have HP3 := Lib.hid h3; clear h2 h3 h4 h5))
                  have HLSA : Hid (LS w8 w3 B (.slice (some ⟨g9, 0, none⟩) (l2 + 1) cap2) (Lj ++ [y]) (.slice oa i oc) vs M) := Lib.hid (HLS6.out.push (new_one w9 _) HP3.out (by rw [HL2.out]; exact HP2.out))
                  have HI8 : Hid (IBlk w8 T _) := Lib.hid (iblk_grown HI6.out HROW.out (by decide) (new_one w9 _) HP3.out)
                  have hLl : (Lj ++ [y]).length = l2 + 1 := by rw [List.length_append, HL2.out]; rfl
                  have HF2 := Lib.hid (HFI.out _ (Lj ++ [y]) w8 HLSA.out.row (by rw [hLl]; omega) y)
                  rw [HNK.out] at HF2
                  obtain ⟨nk, hnk⟩ : ∃ nk, numK id (rowK (nextR m A) id L s (j + 1)) y = nk := ⟨_, rfl⟩
                  rw [hnk] at HF2 HI7
                  have c8 := HI8.out.cell hjl
                  have z8 := free_cells (j := j) HI8.out
                  have HI9 := Lib.hid (HI7.out w8 _ rfl HI8.out)
                  have HLS9 : Hid (LS (w8.setCell ⟨T, j, none⟩ (.int .i64 (nk : Nat))) w3 B (.slice (some ⟨g9, 0, none⟩) (l2 + 1) cap2) (rowK (nextR m A) id L s (j + 1)) (.slice oa i oc) vs M) := Lib.hid (by rw [HRK.out, HPO.out]; exact HLSA.out.store HI8.out HTB.out _)
                  have HL9 : Hid ((rowK (nextR m A) id L s (j + 1)).length = l2 + 1) := Lib.hid (by rw [HRK.out, HPO.out]; exact hLl)
                  obtain ⟨wz, hwz⟩ : ∃ wz, w8.setCell ⟨T, j, none⟩ (.int .i64 (nk : Nat)) = wz := ⟨_, rfl⟩
                  rw [hwz] at HI9 HLS9
                  clear hnk HNK HPO HI7 HI6 HLS6 HROW HRA HF1 HP2 HP3 hLl
                  go_upto_region 13 with (go_at_call 28; refine HF2.out.mono ?_; rintro e w9 ⟨he, rfl⟩; rw [he]; clear he)
                  try rw [hwz]
                  clear hwz c8 z8
                  go_wp2
                  go_roundw
                  case rel => exact ⟨j + 1, l2 + 1, _, _, num_succ j, rfl, by omega, HL9, HI9, HLS9⟩
                  case measure => simp only [intOf]; omega
            · obtain rfl : j = 256 := by omega
              have hd2 : decide (((256 : Nat) : Int) < 256) = false := by decide
              have HI2 : Hid (IBlk wr T (gK (nextR m A) id (rowK (nextR m A) id L s 256) s)) := Lib.hid (HI.out.congr fun x hx => by rw [if_pos hx])
              have HGR : Hid (∀ x, x < 256 → -9223372036854775808 ≤ gK (nextR m A) id (rowK (nextR m A) id L s 256) s x ∧ gK (nextR m A) id (rowK (nextR m A) id L s 256) s x < 9223372036854775808) := Lib.hid (fun x _ => gK_range (by rw [HL2.out]; omega) x)
              clear HI hfc hpre
              have hbw : Below w3.heap.size w3 wr := by rw [HB.out]; exact HLS.out.bl
              obtain ⟨xa, xc, e1, hx⟩ := HU2.out
              obtain ⟨mb, mo, av, e2, hca, _, _⟩ := hx s hsm
              cases e1
              subst e2
              have HMB : Hid (mb < B) := Lib.hid (by rw [← HB.out]; exact cell_lt hca)
              have ca := cell_below hbw hca
              rw [← accS_at hsm, show accS m (s : Nat) = accAt m s from rfl] at ca
              obtain ⟨ac, hac⟩ : ∃ ac, accAt m s = ac := ⟨_, rfl⟩
              obtain ⟨G, hG⟩ : ∃ G, gK (nextR m A) id (rowK (nextR m A) id L s 256) s = G := ⟨_, rfl⟩
              rw [hac] at ca HST
              rw [hG] at HST HI2 HGR
              have hsni : (s : Int) < n := by omega
              have HOK : Hid (wr.ownsRow B 42 2 (.slice oa i oc) i (flatM vs)) := Lib.hid (by have h := HLS.out.out.own; rw [HKLM.out] at h; exact h)
              have HLW : Hid ((walkK (nextR m A) id t0 (i + 1)).length = l2) := Lib.hid (by rw [HWK.out]; exact HL2.out)
              have HIL2 : Hid (i + 1 ≤ l2) := Lib.hid hil2
              obtain ⟨i1, i1a, i1b, i1c, i1d⟩ := info_parts infoState
              have HIS := Lib.hid (⟨i1a, i1b, i1c, i1d⟩ : _ ∧ _ ∧ _ ∧ _)
              have hk4 := HIN.out
              have hsz0 : B ≤ wr.heap.size := Nat.le_trans HLS.out.le HLS.out.size
              clear hx hca hbw hac hG i1a i1b i1c i1d
              go_upto_region 20 with fail
              refine region_goes 15 15 rfl (fun W => W.cell? ⟨fb, i, none⟩ = some (.int .i64 (s : Nat)) ∧ W.cell? ⟨mb, mo + s * 2, none⟩ = some (.int .u64 (ac : Nat)) ∧ IBlk W T G) mixed ⟨cs, ca, HI2.out⟩ (fun hHeld => ?_)
              refine goes_take0 (i := 0) (v := ?gwm1) rfl (by kernel_rfl) (by kernel_rfl) (by kernel_rfl) rfl (fun _ _ _ h => h) (Or.inl ⟨by rfl, ?gxm1⟩) (by assumption) ?gqm1
              case gxm1 => (intro W9 _; first | (go_simp; done) | (go_simp; with_reducible rfl))
              simp only [Act.put, getElem_toArray, getElem_cons_succ, getElem_cons_zero, setIfInBounds_toArray, set_cons_zero, set_cons_succ]
              refine goes_take0 (i := 1) (v := ?gwm2) rfl (by kernel_rfl) (by kernel_rfl) (by kernel_rfl) rfl (fun _ _ _ h => h) (Or.inl ⟨by rfl, ?gxm2⟩) (by assumption) ?gqm2
              case gxm2 => (intro W9 _; first | (go_simp; done) | (go_simp; with_reducible rfl))
              simp only [Act.put, getElem_toArray, getElem_cons_succ, getElem_cons_zero, setIfInBounds_toArray, set_cons_zero, set_cons_succ]
              refine goes_take0 (i := 2) (v := ?gwm3) rfl (by kernel_rfl) (by kernel_rfl) (by kernel_rfl) rfl (fun _ _ _ h => h) (Or.inl ⟨by rfl, ?gxm3⟩) (by assumption) ?gqm3
              case gxm3 => (intro W9 _; first | (go_simp; done) | (go_simp; with_reducible rfl))
              simp only [Act.put, getElem_toArray, getElem_cons_succ, getElem_cons_zero, setIfInBounds_toArray, set_cons_zero, set_cons_succ]
              refine goes_take0 (i := 3) (v := ?gwm4) rfl (by kernel_rfl) (by kernel_rfl) (by kernel_rfl) rfl (fun _ _ _ h => h) (Or.inl ⟨by rfl, ?gxm4⟩) (by assumption) ?gqm4
              case gxm4 => (intro W9 _; first | (go_simp; done) | (go_simp; with_reducible rfl))
              simp only [Act.put, getElem_toArray, getElem_cons_succ, getElem_cons_zero, setIfInBounds_toArray, set_cons_zero, set_cons_succ]
              refine goes_take0 (i := 4) (v := ?gwm5) rfl (by kernel_rfl) (by kernel_rfl) (by kernel_rfl) rfl (fun _ _ _ h => h) (Or.inl ⟨by rfl, ?gxm5⟩) (by assumption) ?gqm5
              case gxm5 => (intro W9 _; first | (go_simp; done) | (go_simp; with_reducible rfl))
              simp only [Act.put, getElem_toArray, getElem_cons_succ, getElem_cons_zero, setIfInBounds_toArray, set_cons_zero, set_cons_succ]
              refine goes_take0 (i := 5) (v := .int .i64 (s : Nat)) rfl (by kernel_rfl) (by kernel_rfl) (by kernel_rfl) rfl (fun _ _ _ h => h) (Or.inl ⟨by rfl, ?gxm6⟩) (by assumption) ?gqm6
              case gxm6 => (intro W9 hW9; have k9 := hW9.1; first | (go_simp; done) | (go_simp; with_reducible rfl))
              simp only [Act.put, getElem_toArray, getElem_cons_succ, getElem_cons_zero, setIfInBounds_toArray, set_cons_zero, set_cons_succ]
              refine goes_take0 (i := 6) (v := ?gwm7) rfl (by kernel_rfl) (by kernel_rfl) (by kernel_rfl) rfl (fun _ _ _ h => h) (Or.inl ⟨by rfl, ?gxm7⟩) (by assumption) ?gqm7
              case gxm7 => (intro W9 _; first | (go_simp; done) | (go_simp; with_reducible rfl))
              simp only [Act.put, getElem_toArray, getElem_cons_succ, getElem_cons_zero, setIfInBounds_toArray, set_cons_zero, set_cons_succ]
              refine goes_take0 (i := 7) (v := ?gwm8) rfl (by kernel_rfl) (by kernel_rfl) (by kernel_rfl) rfl (fun _ _ _ h => h) (Or.inl ⟨by rfl, ?gxm8⟩) (by assumption) ?gqm8
              case gxm8 => (intro W9 _; first | (go_simp; done) | (go_simp; with_reducible rfl))
              simp only [Act.put, getElem_toArray, getElem_cons_succ, getElem_cons_zero, setIfInBounds_toArray, set_cons_zero, set_cons_succ]
              refine goes_take0 (i := 8) (v := .int .u64 (ac : Nat)) rfl (by kernel_rfl) (by kernel_rfl) (by kernel_rfl) rfl (fun _ _ _ h => h) (Or.inl ⟨by rfl, ?gxm9⟩) (by assumption) ?gqm9
              case gxm9 => (intro W9 hW9; have k9 := hW9.2.1; first | (go_simp; done) | (go_simp; with_reducible rfl))
              simp only [Act.put, getElem_toArray, getElem_cons_succ, getElem_cons_zero, setIfInBounds_toArray, set_cons_zero, set_cons_succ]
              refine goes_take0 (i := 9) (v := .agg (Ints G)) rfl (by kernel_rfl) (by kernel_rfl) (by kernel_rfl) rfl (fun _ _ _ h => h) (Or.inl ⟨by rfl, ?gxm10⟩) (by assumption) ?gqm10
              case gxm10 => (intro W9 hW9; exact exec_load_ints hW9.2.2 (.tmp 7) rfl rfl)
              simp only [Act.put, getElem_toArray, getElem_cons_succ, getElem_cons_zero, setIfInBounds_toArray, set_cons_zero, set_cons_succ]
              refine goes_one (i := 10) (by kernel_rfl) rfl (fun K9 hK9 => ?_)
              go_simp
              with_reducible refine (rarcs07_any G wr.drew HGR.out).mono ?_
              rintro e w4' ⟨u, rfl, hu, hb⟩
              obtain ⟨pa, pc, rfl⟩ := row_form hu.out
              have hb4 : Below wr.heap.size wr w4' := ((Below.refl wr.heap.size wr).drew).trans (hb.out.mono (by simp))
              have HB4 := Lib.hid hb4
              have HU4 : Hid (w4'.ownsRow B 38 3 (.slice pa (arcsS G).length pc) (arcsS G).length (flatA (arcsS G))) := Lib.hid (own_weak hu.out hsz0)
              have hS4 : w4'.cell? ⟨fb, i, none⟩ = some (.int .i64 (s : Nat)) ∧ w4'.cell? ⟨mb, mo + s * 2, none⟩ = some (.int .u64 (ac : Nat)) ∧ IBlk w4' T G := ⟨cell_below hb4 cs, cell_below hb4 ca, HI2.out.below hb4⟩
              obtain ⟨gl, hgl⟩ : ∃ gl, (arcsS G).length = gl := ⟨_, rfl⟩
              have HGL := Lib.hid hgl
              rw [hgl] at HU4 ⊢
              refine hK9.out _ _ (fun _ => hS4) (fun _ => ?_)
              clear hK9 K9 hHeld hu hb hb4 hgl
              have hHeld := hS4
              try simp only [Act.put, getElem_toArray, getElem_cons_succ, getElem_cons_zero, setIfInBounds_toArray, set_cons_zero, set_cons_succ]
              refine goes_take0 (i := 11) (v := .agg #[.int .u64 (ac : Nat), .slice pa gl pc]) rfl (by kernel_rfl) (by kernel_rfl) (by kernel_rfl) rfl (fun _ _ _ h => h) (Or.inl ⟨by rfl, ?gxm11⟩) (by assumption) ?gqm11
              case gxm11 => (intro W9 _; first | (go_simp; done) | (go_simp; with_reducible rfl))
              simp only [Act.put, getElem_toArray, getElem_cons_succ, getElem_cons_zero, setIfInBounds_toArray, set_cons_zero, set_cons_succ]
              refine goes_one (i := 12) (by kernel_rfl) rfl (fun K9 hK9 => ?_)
              go_simp
              have hb9 := new_one w4' (.cells #[.int .u64 (ac : Nat), .slice pa gl pc] 42)
              have hN9 : (w4'.alloc (.cells #[.int .u64 (ac : Nat), .slice pa gl pc] 42)).heap[w4'.heap.size]? = _ := heap_alloc_new w4' _
              have hs9 : (w4'.alloc (.cells #[.int .u64 (ac : Nat), .slice pa gl pc] 42)).heap.size = w4'.heap.size + 1 := World.size_alloc _ _
              obtain ⟨w9, hw9⟩ : ∃ w9, w4'.alloc (.cells #[.int .u64 (ac : Nat), .slice pa gl pc] 42) = w9 := ⟨_, rfl⟩
              rw [hw9] at hb9 hN9 hs9
              try rw [hw9]
              have hS9 : w9.cell? ⟨fb, i, none⟩ = some (.int .i64 (s : Nat)) ∧ w9.cell? ⟨mb, mo + s * 2, none⟩ = some (.int .u64 (ac : Nat)) ∧ IBlk w9 T G := ⟨cell_below hb9 hS4.1, cell_below hb9 hS4.2.1, hS4.2.2.below hb9⟩
              have HO9 := Lib.hid (own_below (own_below HOK.out HB4.out) hb9)
              have HB9 := Lib.hid hb9
              refine hK9.out _ _ (fun _ => hS9) (fun _ => ?_)
              clear hK9 K9 hHeld hw9 hb9
              have hHeld := hS9
              refine goes_one (i := 13) (by kernel_rfl) rfl (fun K9 hK9 => ?_)
              refine step_append_lies _ rfl (.tmp 62) (.tmp 74) 23 rfl B 42 i1 (.agg #[.int .u64 0, .slice none 0 0]) 2 32 Try.underlying23 HIS.out.1 HIS.out.2.1 HIS.out.2.2.1 HIS.out.2.2.2 rfl (by decide) (.slice oa i oc) i (flatM vs) rfl HO9.out ⟨w4'.heap.size, 0, none⟩ 1 1 [.int .u64 (ac : Nat), .slice pa gl pc] rfl rfl (news_in (cs := #[.int .u64 (ac : Nat), .slice pa gl pc]) hN9) (by simp [Value.oneCell']) (by omega) (by unfold maxLen; omega) (by omega) (by have := HB4.out.size; omega) (w4'.heap.size + 1) hs9 ?_
              intro g9 cap9 w8 h2 h3 h4 h5
              have hB9r : Below wr.heap.size wr w9 := HB4.out.trans (HB9.out.mono HB4.out.size)
              have HLS8 : Hid (LS w8 w3 B (.slice (some ⟨fb, 0, none⟩) l2 c2) (rowK (nextR m A) id L s 256) (.slice (some ⟨g9, 0, none⟩) (i + 1) cap9) (vs ++ [(ac, .slice pa gl pc)]) (M ++ [⟨ac, arcsS G⟩])) := Lib.hid ((HLS.out.below HB4.out).outs (s := ⟨ac, arcsS G⟩) (u := .slice pa gl pc) (by have h := HU4.out; rw [← HGL.out] at h ⊢; exact h) HB9.out h3 (by rw [HKLM.out]; exact h2))
              have hS8 : w8.cell? ⟨fb, i, none⟩ = some (.int .i64 (s : Nat)) ∧ w8.cell? ⟨mb, mo + s * 2, none⟩ = some (.int .u64 (ac : Nat)) ∧ IBlk w8 T G := by
                refine ⟨(h3.cell_far _ (show fb < w9.heap.size from cell_lt hS9.1) (fun e => ?_)).trans hS9.1, (h3.cell_far _ (show mb < w9.heap.size from cell_lt hS9.2.1) (fun e => by have := (HO9.out.lt mb e.symm).1; have := HMB.out; omega)).trans hS9.2.1, iblk_grown HI2.out HOK.out (by decide) hB9r h3⟩
                obtain ⟨d1, x1⟩ := row_block (own_below HLS.out.row hB9r) (g := fb) rfl
                obtain ⟨d2, x2⟩ := row_block HO9.out e.symm
                rw [x1] at x2
                exact absurd (Obj.cells.inj (Option.some.inj x2)).2.1 (by decide)
              have HLSN : Hid (∃ vs, LS w8 w3 B (.slice (some ⟨fb, 0, none⟩) l2 c2) (walkK (nextR m A) id t0 (i + 1)) (.slice (some ⟨g9, 0, none⟩) (i + 1) cap9) vs (leastP (accAt m) (nextR m A) id (walkK (nextR m A) id t0 (i + 1)) ((walkK (nextR m A) id t0 (i + 1)).take (i + 1)))) := Lib.hid ⟨_, by rw [HST.out, HWK.out]; exact HLS8.out⟩
              refine hK9.out _ _ (fun _ => hS8) (fun _ => ?_)
              clear hK9 K9 hHeld h2 h3 h4 h5 hS9 hS4 hN9 hs9 hB9r ca cs
              have hHeld := hS8
              try simp only [Act.put, getElem_toArray, getElem_cons_succ, getElem_cons_zero, setIfInBounds_toArray, set_cons_zero, set_cons_succ]
              refine goes_take0 (i := 14) (v := ?gwm12) rfl (by kernel_rfl) (by kernel_rfl) (by kernel_rfl) rfl (fun _ _ _ h => h) (Or.inl ⟨by rfl, ?gxm12⟩) (by assumption) ?gqm12
              case gxm12 => (intro W9 _; first | (go_simp; done) | (go_simp; with_reducible rfl))
              simp only [Act.put, getElem_toArray, getElem_cons_succ, getElem_cons_zero, setIfInBounds_toArray, set_cons_zero, set_cons_succ]
              refine goes_done (by kernel_rfl) ?_ _
              clear hHeld hS8 HLS HI2 HLS8
              go_wp2_with fail
              exact ⟨⟨i + 1, l2, _, _, _, _, num_succ i, rfl, rfl, hk4, HLW, HIL2, HLSN⟩, by simp only [intOf]; omega⟩
        · have hke : i = ln := by have := HIL.out; omega
          have HMM : Hid (MachAt wr (.slice oa i oc) (leastK (accAt m) (nextR m A) id (walkK (nextR m A) id t0 i))) := Lib.hid (by have h := hls.out.mach; rw [List.take_of_length_le (by rw [HLN.out]; omega), leastP_all] at h; exact h)
          have HLR : Hid (LeastR m (leastK (accAt m) (nextR m A) id (walkK (nextR m A) id t0 i))) := Lib.hid (.inr ⟨HS.out, by rw [HNN.out]; exact h0m, D, HD.out, .inr ⟨t0, i, by rw [HAA.out]; exact HT0.out, by rw [HAA.out, HLN.out]; exact hke.symm, by rw [HAA.out]⟩⟩)
          have HBE : Hid (Below N w wr) := Lib.hid (HBN.out.trans (hls.bl.mono (by rw [← HB.out, ← hN]; exact (by have := HBN.out.size; omega))))
          subst hke
          have hd : decide ((i : Int) < i) = false := by simp
          clear hls hlt hLlt hLnd hnl hLn HLS HIL HLS1
          go_wp2
          exact bodyPost_ret (v := .slice oa i oc) (by simp [results, Try.results9, go_sem, *]) rfl ⟨_, _, rfl, HMM, HLR, HBE⟩
  · have hz : soundS m = [] := List.eq_nil_of_length_eq_zero (by omega)
    have HLR : Hid (LeastR m []) := Lib.hid (.inl ⟨by omega, rfl⟩)
    rw [hz] at HR
    have HAP := Lib.hid (fun (u : Value) (wr : World) (hu : MachAt wr u []) => apart_any u [] wr hu (fun s hs => by simp at hs) (fun s hs => by simp at hs) (by decide) (fun i hi b hb => by unfold nextS; rw [dif_neg (by simp)]; decide))
    clear hv hl hm h0 hz
    rw [hN]
    go_enter Try.func9, Try.ntmps9
    go_upto_region 3 with (first
      | (go_at_call 24; refine HR.out.mono ?_; rintro e w1 ⟨u, rfl, hu, hb⟩; have HU1 := Lib.hid (hu.out.below hb.out); have HB1 := Lib.hid hb.out; obtain ⟨ua, uc, rfl⟩ := hu.out.len; clear hu hb)
      | (go_at_call 25; refine (HAP.out _ w1 HU1.out).mono ?_; rintro e w2 ⟨gb, D, he, HG, hD, hgb, HB2⟩; rw [he]; clear he))
    have HBN : Hid (Below N w w2) := Lib.hid (by
      have e1 := HB1.out.size
      rw [← hN]
      exact HB1.out.trans (HB2.out.mono e1))
    clear HR HAP HU1 HB1 hD hgb HB2 HG
    go_wp2
    exact bodyPost_ret (v := .slice none 0 0) (by simp [results, Try.results9, go_sem, *]) rfl ⟨_, [], rfl, Lib.hid (HE.out _), HLR, HBN⟩
end Go.Proofs.Ytamgldhnfcikbaa
set_option maxRecDepth 100000
namespace Go.Proofs.Ytamgldhnfcikbaa
open Go.RowKit

deriving instance DecidableEq for Arc3
deriving instance DecidableEq for Sta
def exM : List Sta := [⟨0, [⟨97, 97, 1⟩, ⟨98, 98, 2⟩]⟩, ⟨1, []⟩, ⟨1, []⟩, ⟨0, []⟩]
def exL : List Sta := [⟨0, [⟨97, 98, 1⟩]⟩, ⟨1, []⟩]
def clsX (i : Nat) : Nat := if i = 0 then 0 else if i < 3 then 1 else 2
def exD (i k : Nat) : Bool := clsX i != clsX k
theorem ex_sound : soundS exM = exM := by unfold soundS; rw [if_pos (by decide +kernel)]
theorem exL_sound : soundS exL = exL := by unfold soundS; rw [if_pos (by decide +kernel)]
theorem nil_sound : soundS [] = [] := by unfold soundS; split <;> rfl
theorem ex_mays : Mays exM := fun s hs => by
  simp only [exM, List.mem_cons, List.not_mem_nil, or_false] at hs
  rcases hs with rfl | rfl | rfl | rfl <;> refine ⟨by decide, fun a ha => ?_⟩ <;> simp only [List.mem_cons, List.not_mem_nil, or_false] at ha
  rcases ha with rfl | rfl <;> exact ⟨by decide, by decide, by decide, by decide⟩
theorem exL_mays : Mays exL := fun s hs => by
  simp only [exL, List.mem_cons, List.not_mem_nil, or_false] at hs
  rcases hs with rfl | rfl <;> refine ⟨by decide, fun a ha => ?_⟩ <;> simp only [List.mem_cons, List.not_mem_nil, or_false] at ha
  subst ha; exact ⟨by decide, by decide, by decide, by decide⟩
theorem ex_len : ∀ s ∈ exM, s.arcs.length < 9223372036854775808 := fun s hs => by
  simp only [exM, List.mem_cons, List.not_mem_nil, or_false] at hs
  rcases hs with rfl | rfl | rfl | rfl <;> decide
theorem exL_len : ∀ s ∈ exL, s.arcs.length < 9223372036854775808 := fun s hs => by
  simp only [exL, List.mem_cons, List.not_mem_nil, or_false] at hs
  rcases hs with rfl | rfl <;> decide
theorem ex_table : TableD exM exD := by
  have h1 : ∀ i, i < 5 → ∀ k, k < 5 → exD i k = true → accS exM (i : Nat) ≠ accS exM (k : Nat) ∨ accS exM (runFrom exM (i : Nat) [97]) ≠ accS exM (runFrom exM (k : Nat) [97]) := by decide +kernel
  have h2 : ∀ i, i < 5 → ∀ b, b < 256 → nextS exM (i : Nat) b < exM.length := by decide +kernel
  have h3 : ∀ i, i < 5 → ∀ k, k < 5 → accS exM (i : Nat) ≠ accS exM (k : Nat) → exD i k = true := by decide +kernel
  have h4 : ∀ i, i < 5 → ∀ k, k < 5 → ∀ b, b < 256 → exD (tgtN exM i b) (tgtN exM k b) = true → exD i k = true := by decide +kernel
  intro i k hi hk
  have hi5 : i < 5 := Nat.lt_succ_of_le hi
  have hk5 : k < 5 := Nat.lt_succ_of_le hk
  constructor
  · intro h
    rw [apart_iff]
    rcases h1 i hi5 k hk5 h with h | h
    · exact ⟨[], fun b hb => by simp at hb, h⟩
    · exact ⟨[97], fun b hb => by simp at hb; omega, h⟩
  · intro h
    exact apart_table (m := exM) (fun i hi b hb => h2 i (Nat.lt_succ_of_le hi) b hb) (fun i k hi hk he => h3 i (Nat.lt_succ_of_le hi) k (Nat.lt_succ_of_le hk) he) (fun i k b hi hk hb he => h4 i (Nat.lt_succ_of_le hi) k (Nat.lt_succ_of_le hk) b hb he) hi hk h
theorem ex_leastR : LeastR exM exL := by
  refine .inr ⟨ex_sound, by decide, exD, ex_table, .inr ⟨0, 2, by decide +kernel, by decide +kernel, ?_⟩⟩
  decide +kernel
theorem ex_least {K : List Sta} (h : LeastP exM K) : K = exL := least_eq ex_mays h ex_leastR
theorem run_zero (m : List Sta) (t : List Nat) : accS m (runS m t) = accS m (runFrom m 0 t) := by
  unfold runS
  by_cases h : m.length = 0
  · have : m = [] := List.eq_nil_of_length_eq_zero h
    subst this
    have hz : ∀ s : Int, accS [] s = 0 := fun s => by unfold accS; split <;> simp
    rw [hz, hz]
  · rw [if_neg h]
theorem alike_dif {m n : List Sta} (h : AlikeS m n 0 0) : AlikeP m n true :=
  ⟨fun _ t ht hd => by
    unfold Dif at hd
    rw [run_zero, run_zero] at hd
    exact hd (alike_iff.1 h t ht), fun _ => rfl⟩
theorem alikeP_one {m n : List Sta} {a b : Bool} (h : AlikeP m n a) (k : AlikeP m n b) : a = b := by
  unfold AlikeP at h k
  have := h.trans k.symm
  cases a <;> cases b <;> simp_all
theorem walkK_first (next : Nat → Nat → Option Nat) (key : Nat → Nat) (s0 : Nat) : ∀ i, (walkK next key s0 i)[0]? = some s0
  | 0 => rfl
  | i + 1 => by
    obtain ⟨M, hM⟩ := walkK_step (next := next) (key := key) (s0 := s0) i
    have ih := walkK_first next key s0 i
    rw [hM, List.getElem?_append_left (List.getElem?_eq_some_iff.1 ih).1]; exact ih
theorem least_alike {m K : List Sta} (hm : Mays m) (h : LeastP m K) : AlikeS K (soundS m) 0 0 := by
  rcases h with ⟨h0, rfl⟩ | ⟨hs, h0, U, hU, h⟩
  · have : soundS m = [] := List.eq_nil_of_length_eq_zero h0
    rw [this]; exact AlikeS.refl _ _
  · have hf := (sound_len hm (by rw [hs]; exact h0)).2.1
    have hu := hU.none hf h0
    rw [hs]
    rcases h with ⟨hU0, _, rfl⟩ | ⟨hU0, hk, C, i, hC, hCn, hw, rfl⟩
    · have hdd : DeadS m ((0 : Nat) : Int) := by
        apply Classical.byContradiction
        intro h9
        rw [hu.2 h9] at hU0; cases hU0
      refine alike_iff.2 fun bs hb => ?_
      have h1 := hdd bs hb
      have hz : ∀ s : Int, accS [] s = 0 := fun s => by unfold accS; split <;> simp
      rw [hz]; exact h1.symm
    · have hft := trim_fits U hf
      have hlt := walkK_lt (key := C) (next := nextP (trimS U m)) (s0 := 0) (n := (trimS U m).length) hk (fun s b y hs _ h => nextP_lt hft hs h) i
      have h1 : AlikeS (leastK (accAt (trimS U m)) (nextP (trimS U m)) C (walkK (nextP (trimS U m)) C 0 i)) (trimS U m) ((0 : Nat) : Int) ((0 : Nat) : Int) :=
        leastK_alike (fun s _ => rfl) (fun s hs b _ hn => by
          rcases next_cases hft (hlt s hs) b with ⟨_, e⟩ | ⟨y, e, _⟩
          · rw [e]; exact fun bs _ => by rw [run_nowhere]; exact accS_none (.inl (by decide))
          · rw [hn] at e; cases e) (fun s hs b _ y hy => by
          rcases next_cases hft (hlt s hs) b with ⟨e, _⟩ | ⟨z, e, e2, _⟩
          · rw [hy] at e; cases e
          · rw [hy] at e; cases e
            rw [e2]; exact AlikeS.refl _ _) (fun s hs t ht b _ y hy hk2 => (hC s y (hlt s hs) (nextP_lt hft (hlt t ht) hy)).1 hk2) (walkK_closed hw) (walkK_first _ _ _ i)
      have h2 := hU.alike hf hU0 h0
      exact h1.trans h2
theorem ex_alike {K : List Sta} (hK : LeastP exM K) : AlikeP exM exL true := by
  have h1 := (least_alike ex_mays hK).symm
  rw [ex_sound, ex_least hK] at h1
  exact alike_dif h1
theorem ex_dif : Dif exM [] [97] := by unfold Dif; decide +kernel
theorem ex_diffs : DiffP exM [] [97] true := by
  have h1 : ¬ Dif exM [] [] := by unfold Dif; decide +kernel
  have h2 : ∀ b, b < 97 → ¬ Dif exM [] [b] := by unfold Dif; decide +kernel
  refine .inl ⟨rfl, fun b hb => by simp at hb; omega, ex_dif, fun t _ hd => ?_⟩
  match t, hd with
  | [], hd => exact absurd hd h1
  | [b], hd =>
    by_cases hb : b < 97
    · exact absurd hd (h2 b hb)
    · show 0 * 256 + 97 + 1 ≤ 0 * 256 + b + 1
      omega
  | a :: b :: u, _ =>
    have h := code_append [a] (b :: u)
    have e : code [a] = a + 1 := by show 0 * 256 + a + 1 = _; omega
    have h5 : 256 ≤ 256 ^ (b :: u).length := by rw [List.length_cons, Nat.pow_succ]; have := Nat.pow_pos (n := u.length) (show 0 < 256 by decide); omega
    have h6 : 256 ≤ code [a] * 256 ^ (b :: u).length := by rw [e, Nat.add_mul, Nat.one_mul]; omega
    have e2 : [a] ++ b :: u = a :: b :: u := rfl
    rw [e2] at h
    have : code [97] = 98 := rfl
    omega
theorem ex_nil : AlikeP exM [] false := by
  unfold AlikeP
  exact ⟨fun h => (by cases h), fun h => absurd ex_dif (h [97] (fun b hb => by simp at hb; omega))⟩
theorem ex_use (s : Nat) (hs : s < 4) : (Leads exM s ∧ Come exM s) ↔ s < 3 := by
  have hl1 : Leads exM 1 := .acc (by decide) (by decide)
  have hl2 : Leads exM 2 := .acc (by decide) (by decide)
  have hl0 : Leads exM 0 := .step (a := ⟨97, 97, 1⟩) (by decide) (by simp [exM]) hl1
  have hc0 : Come exM 0 := .first (by decide)
  have hc1 : Come exM 1 := .step (i := 0) (a := ⟨97, 97, 1⟩) (by decide) (by simp [exM]) hc0
  have hc2 : Come exM 2 := .step (i := 0) (a := ⟨98, 98, 2⟩) (by decide) (by simp [exM]) hc0
  constructor
  · rintro ⟨_, hc⟩
    have key : ∀ s, Come exM s → s < 3 := by
      intro s hc
      induction hc with
      | first _ => decide
      | @step i a h ha _ ih =>
        have : i = 0 ∨ i = 1 ∨ i = 2 := by omega
        rcases this with rfl | rfl | rfl
        · simp [exM] at ha
          rcases ha with rfl | rfl <;> decide
        · simp [exM] at ha
        · simp [exM] at ha
    exact key s hc
  · intro h
    have : s = 0 ∨ s = 1 ∨ s = 2 := by omega
    rcases this with rfl | rfl | rfl
    · exact ⟨hl0, hc0⟩
    · exact ⟨hl1, hc1⟩
    · exact ⟨hl2, hc2⟩
end Go.Proofs.Ytamgldhnfcikbaa
