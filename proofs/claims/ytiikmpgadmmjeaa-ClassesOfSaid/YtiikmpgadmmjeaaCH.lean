/- The contract of the reference's Lows. -/
import Derived.Test.YtiikmpgadmmjeaaCA
import Derived.Lib.MinMax
set_option maxRecDepth 100000
namespace Go.Proofs.Ytiikmpgadmmjeaa
open Go.RowKit

set_option maxHeartbeats 4000000 in
theorem rlows_any (cls : Nat → Nat) (n : Nat) (w : World) (hc : ∀ b, b < 256 → cls b < 256) (hn : mxOf cls 256 + 1 = n) :
    Calls Try.prog 11 #[.agg (U8s cls)] w fun e w' => ∃ b, e = .returned (.slice (some ⟨b, 0, none⟩) n n) ∧ w.heap.size ≤ b ∧ Hid (LBlk w' b n (lowF cls 256)) ∧ Hid (Below w.heap.size w w') := by
  have hmx : mxOf cls 256 ≤ 255 := mx_le cls 255 256 fun i hi => by have := hc i hi; omega
  have hmw : IntKind.i64.wrap ((mxOf cls 256 : Nat) + 1 : Int) = (n : Nat) := by rw [IntKind.wrap_i64]; omega
  have HMK := Lib.hid (fun W => make_bytes (c := (n : Int)) (n := n) rfl (by omega) W)
  have HCN := Lib.hid (show ∀ b, b < 256 → cls b < n from fun b hb => by have := mx_ge cls 256 b hb; omega)
  have HC8 := Lib.hid hc
  clear hc
  obtain ⟨B0, hB⟩ : ∃ B, w.heap.size = B := ⟨_, rfl⟩
  have HB := Lib.hid hB
  obtain ⟨I0, hI0⟩ : ∃ I0, U8s cls = I0 := ⟨_, rfl⟩
  obtain ⟨w1, hw1⟩ : ∃ w1, w.alloc (.cells I0 24) = w1 := ⟨_, rfl⟩
  have HU : Hid (UBlk w1 B0 cls) := Lib.hid (by rw [← hw1, ← hI0, ← hB]; exact UBlk.new w cls)
  have HBW : Hid (Below B0 w w1) := Lib.hid (by rw [← hw1, ← hB]; exact new_one w _)
  have hsz : w1.heap.size = B0 + 1 := by rw [← hw1]; simp [hB]
  rw [hI0, hB]
  clear hI0
  obtain ⟨M, hM⟩ : ∃ M, mxOf cls 256 = M := ⟨_, rfl⟩
  have HM := Lib.hid hM
  rw [hM] at hmw
  clear hM hmx hn
  obtain ⟨LF, hLF⟩ : ∃ LF, lowF cls 256 = LF := ⟨_, rfl⟩
  have HLF := Lib.hid hLF
  rw [hLF]
  clear hLF
  go_enter Try.func11, Try.ntmps11
  go_wp2
  clear hw1
  go_loopw [3, 4] (fun x z wr => ∃ i : Nat, z = .int .i64 i ∧ i ≤ 256 ∧ x = .int .i64 (mxOf cls i : Nat) ∧ wr = w1) (fun _ z _ => 256 - (intOf z).toNat)
  case atStart => exact ⟨0, rfl, Nat.zero_le _, rfl, rfl⟩
  case round =>
    obtain ⟨i, rfl, hi, rfl, rfl⟩ := hrel
    by_cases hlt : i < 256
    · have hd : decide ((i : Int) < 256) = true := decide_eq_true (by omega)
      have c0 := HU.out.cell hlt
      have hi256 : (i : Int) < 256 := by omega
      have hq256 := HC8.out i hlt
      have HN := Lib.hid (show ((mxOf cls (i + 1) : Nat) : Int) = max ((mxOf cls i : Nat) : Int) ((cls i : Nat) : Int) from (max_cast _ _).symm)
      generalize cls i = q at *
      generalize mxOf cls i = p at *
      go_wp2
      exact ⟨⟨i + 1, rfl, hlt, by rw [HN.out], trivial⟩, by simp only [intOf]; omega⟩
    · obtain rfl : i = 256 := by omega
      have hd : decide (((256 : Nat) : Int) < 256) = false := by simp
      rw [HM.out]
      have hmk := HMK.out
      go_wp2
      clear hmk HMK
      obtain ⟨w2, hw2⟩ : ∃ w2, wr.alloc (.cells (Bys n fun _ => 0) 5) = w2 := ⟨_, rfl⟩
      have HL : Hid (LBlk w2 (B0 + 1) n fun _ => 0) := Lib.hid (by rw [← hw2, ← hsz]; exact heap_alloc_new wr _)
      have hb2 : Below wr.heap.size wr w2 := by rw [← hw2]; exact new_one wr _
      have HU2 := Lib.hid (HU.out.below hb2)
      have HB2 := Lib.hid (HBW.out.trans (hb2.mono (by omega)))
      have hs2 : B0 + 2 ≤ w2.heap.size := by rw [← hw2]; simp [hsz]
      rw [hw2]
      clear hw2 hb2 HU HBW
      generalize hb1 : B0 + 1 = b1 at *
      have HBS := Lib.hid hb1.symm
      clear hb1
      go_loopw [6] (fun z ws => ∃ j : Nat, z = .int .i64 (255 - (j : Int)) ∧ j ≤ 256 ∧ Hid (UBlk ws B0 cls) ∧ Hid (LBlk ws b1 n (lowF cls j)) ∧ Hid (Below B0 w ws)) (fun z _ => (intOf z + 1).toNat)
      case atStart => exact ⟨0, rfl, Nat.zero_le _, HU2, HL, HB2⟩
      case round =>
        clear HU2 HL HB2 hs2
        obtain ⟨j, rfl, hj, HU, HL, HBW⟩ := hrel
        by_cases hlt : j < 256
        · obtain ⟨i, hi2⟩ : ∃ i, 255 - j = i := ⟨_, rfl⟩
          have hij : (255 : Int) - j = (i : Nat) := by omega
          have hi256 : i < 256 := by omega
          have hil : (i : Int) < 256 := by omega
          have hd : decide ((i : Int) ≥ 0) = true := decide_eq_true (by omega)
          have hd2 : decide ((0 : Int) ≤ i) = true := decide_eq_true (by omega)
          have c0 := HU.out.cell hi256
          have hcn := HCN.out i hi256
          have hcni : (cls i : Int) < n := by omega
          have hfz : wr.frozen? ⟨b1, cls i, none⟩ = false := HL.out.frozen
          have c1 := HL.out.cell hcn
          have hwi : IntKind.u8.wrap (i : Int) = i := by rw [IntKind.wrap_u8]; omega
          have HNX := Lib.hid (show (i : Int) - 1 = 255 - ((j + 1 : Nat) : Int) by omega)
          have HSET := Lib.hid (HL.out.set (k := cls i) (v := i) (g := lowF cls (j + 1)) (by show (if cls (255 - j) = cls i then 255 - j else _) = i; rw [hi2, if_pos rfl]) (fun k _ hne => by
            show _ = if cls (255 - j) = k then 255 - j else _
            rw [hi2, if_neg fun e => hne e.symm]))
          have hbs := HBS.out
          have HNU := Lib.hid (HU.out.other (a := ⟨b1, cls i, none⟩) (by show B0 ≠ b1; omega) (.int .u8 (i : Nat)))
          have HNB := Lib.hid (HBW.out.setCell (p := ⟨b1, cls i, none⟩) (by show B0 ≤ b1; omega) (.int .u8 (i : Nat)))
          rw [hij]
          clear HU HL HBW hbs
          generalize cls i = q at *
          go_wp2
          exact ⟨⟨j + 1, by rw [HNX.out], by omega, HNU, HSET, HNB⟩, by simp [intOf]⟩
        · obtain rfl : j = 256 := by omega
          have hd : decide ((255 : Int) - ((256 : Nat) : Int) ≥ 0) = false := by decide
          rw [HLF.out] at HL
          go_wp2
          go_ret
          exact ⟨b1, rfl, by have := HBS.out; omega, HL, HBW⟩
end Go.Proofs.Ytiikmpgadmmjeaa
