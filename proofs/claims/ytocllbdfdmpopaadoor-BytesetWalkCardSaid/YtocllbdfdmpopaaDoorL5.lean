/- The walk of BytesetWalk. -/
import Derived.Test.YtocllbdfdmpopaaDoorW0
set_option maxRecDepth 20000
namespace Go.Proofs.YtocllbdfdmpopaaDoor
open Go.RowKit
theorem cnt_skip (s : BitVec 256) : ∀ (n p : Nat), (∀ c, p ≤ c → c < p + n → s.getLsbD c = false) → cnt s (p + n) = cnt s p
  | 0, _, _ => rfl
  | n + 1, p, h => by
    rw [← Nat.add_assoc, cnt, cnt_skip s n p (fun c h1 h2 => h c h1 (by omega)), h (p + n) (by omega) (by omega)]
    rfl
theorem cnt_next {s : BitVec 256} {p : Nat} (h : fst s p < 256) : cnt s (fst s p + 1) = cnt s p + 1 := by
  rcases fst_cases s p with ⟨h1, h2, h3, h4⟩ | ⟨h1, _⟩
  · have := cnt_skip s (fst s p - p) p (fun c c1 c2 => h4 c c1 (by omega))
    rw [show p + (fst s p - p) = fst s p from by omega] at this
    rw [cnt, this, h3]; rfl
  · omega
theorem cnt_last {s : BitVec 256} {p : Nat} (hp : p ≤ 256) (h : 256 ≤ fst s p) : cnt s 256 = cnt s p := by
  rcases fst_cases s p with ⟨h1, h2, h3, h4⟩ | ⟨_, h2⟩
  · omega
  · have := cnt_skip s (256 - p) p (fun c c1 c2 => h2 c c1 (by omega))
    rw [show p + (256 - p) = 256 from by omega] at this
    exact this
theorem cnt_not (s : BitVec 256) : ∀ k, k ≤ 256 → cnt s k + cnt (~~~s) k = k
  | 0, _ => rfl
  | k + 1, h => by
    have := cnt_not s k (by omega)
    rw [cnt, cnt, BitVec.getLsbD_not]
    have l : k < 256 := by omega
    cases s.getLsbD k <;> simp [l] <;> omega
set_option maxHeartbeats 2000000 in
theorem walk_any (s : BitVec 256) (w : World) (hT : Tab w) :
    Calls Tryd.prog 7 #[(.agg #[.int .u64 (wd (s) 0), .int .u64 (wd (s) 1), .int .u64 (wd (s) 2), .int .u64 (wd (s) 3)])] w fun e w' => e = .returned (.bool true) ∧ Below w.heap.size w w' := by
  go_enter Tryd.func7, Tryd.ntmps7
  go_wp2_with (go_at_call 8; refine (awake_any _ (hT.alloc _)).mono ?_; rintro e w1 ⟨rfl, hb1⟩)
  have hs1 := (box_start w s).1.grown hb1
  have hB1 := (box_start w s).2.trans (hb1.mono (by simp))
  have hT1 := hT.below hB1
  clear hb1
  go_loopw [4, 5] (fun n f wr => ∃ p : Nat, p ≤ 256 ∧ f = .int .i64 p ∧ n = .int .i64 (cnt s p) ∧ SetAt wr w.heap.size s ∧ Below w.heap.size w wr) (fun _ f _ => 257 - (intOf f).toNat)
  case atStart => exact ⟨0, by omega, rfl, rfl, hs1, hB1⟩
  case round =>
    obtain ⟨p, hp, rfl, rfl, hs, hbw⟩ := hrel
    clear hs1 hB1 hT1
    have hT2 := hT.below hbw
    obtain ⟨c0, c1, c2, c3⟩ := hs.cells
    have hcl := cnt_le s p
    rcases Nat.lt_or_ge (fst s p) 256 with h | h
    · have HV := Lib.hid (fstV_in h)
      have HC := Lib.hid (cnt_next h)
      obtain ⟨n1, _, _⟩ := fst_not h
      have HH : Hid (s.getLsbD (fst s p) = true) := by
        rcases fst_cases s p with ⟨_, _, h3, _⟩ | ⟨h1, _⟩
        · exact h3
        · omega
      obtain ⟨r, hr⟩ : ∃ r, fst s p = r := ⟨_, rfl⟩
      rw [hr] at HV HC HH n1 h
      have HR := Lib.hid hr
      clear hr
      go_wp2_with (first
        | (go_at_call 9; refine (first_nat s p _ (.inr rfl) (by omega) _ hT2).mono ?_; rw [HR.out, HV.out]; rintro e w2 ⟨rfl, hb2⟩; obtain ⟨d0, d1, d2, d3⟩ := (hs.grown hb2).cells)
        | (go_at_call 11; refine (has_any s r h _).mono ?_; rw [HH.out]; rintro e w3 ⟨rfl, hb3⟩))
      go_roundw
      case rel => exact ⟨r + 1, by omega, num_succ r, by rw [HC.out]; exact num_succ _, (hs.grown hb2).grown hb3, (hbw.trans (hb2.mono hbw.size)).trans (hb3.mono (hbw.trans (hb2.mono hbw.size)).size)⟩
      case measure => simp [intOf]; omega
    · have HV := Lib.hid (fstV_out h)
      have HL := Lib.hid (cnt_last hp h)
      have hn := cnt_not s 256 (by omega)
      rw [HL.out] at hn
      obtain ⟨m, hm⟩ : ∃ m, cnt (~~~s) 256 = m := ⟨_, rfl⟩
      rw [hm] at hn
      have HM := Lib.hid hm
      clear hm
      generalize hc : cnt s p = c at *
      have HC := Lib.hid hc
      clear hc
      have b1 : ((c : Int) == (c : Int)) = true := by simp
      have b2 : ((c : Int) + (m : Int) == 256) = true := by rw [beq_iff_eq]; omega
      go_wp2_with (first
        | (go_at_call 9; refine (first_nat s p _ (.inr rfl) (by omega) _ hT2).mono ?_; rw [HV.out]; rintro e w2 ⟨rfl, hb2⟩; have hs2 := hs.grown hb2; obtain ⟨d0, d1, d2, d3⟩ := hs2.cells)
        | (go_at_call 18; refine (not_any s _).mono ?_; rintro e w4 ⟨rfl, hb4⟩)
        | (go_at_call 13; first
            | ((with_reducible refine (count_any s _).mono ?_); rw [HL.out]; rintro e w3 ⟨rfl, hb3⟩; obtain ⟨e0, e1, e2, e3⟩ := (hs2.grown hb3).cells)
            | ((with_reducible refine (count_any (~~~s) _).mono ?_); rw [HM.out]; rintro e w5 ⟨rfl, hb5⟩)))
      go_ret
      have a2 := hbw.trans (hb2.mono hbw.size)
      have a3 := a2.trans (hb3.mono a2.size)
      have a4 := a3.trans (hb4.mono a3.size)
      exact ⟨rfl, a4.trans (hb5.mono a4.size)⟩
end Go.Proofs.YtocllbdfdmpopaaDoor
