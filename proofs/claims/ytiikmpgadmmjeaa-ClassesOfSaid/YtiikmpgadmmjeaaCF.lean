/- The contract of classes.Run. -/
import Derived.Test.YtiikmpgadmmjeaaC3
set_option maxRecDepth 100000
namespace Go.Proofs.Ytiikmpgadmmjeaa
open Go.RowKit

/-- One byte on; behind nowhere nowhere. -/
def goT (T : List (List Int)) (cls : Nat → Nat) (r : Int) (b : Nat) : Int := if r < 0 then -1 else nextT T r.toNat (cls b)
/-- Where a table is behind a text. -/
def runT (T : List (List Int)) (cls : Nat → Nat) (bs : List Nat) : Int := if T.length = 0 then -1 else bs.foldl (goT T cls) 0
theorem goT_neg (T : List (List Int)) (cls : Nat → Nat) : ∀ bs : List Nat, bs.foldl (goT T cls) (-1) = -1
  | [] => rfl
  | b :: bs => by
    show bs.foldl (goT T cls) (goT T cls (-1) b) = -1
    rw [show goT T cls (-1) b = -1 from by unfold goT; rw [if_pos (by omega)]]
    exact goT_neg T cls bs
theorem goT_ge (T : List (List Int)) (cls : Nat → Nat) (r : Int) (b : Nat) : -1 ≤ goT T cls r b := by
  unfold goT
  split
  · omega
  · exact nextT_ge _ _ _
theorem goT_take {T : List (List Int)} {cls : Nat → Nat} {r : Int} {bs : List Nat} {i : Nat} (h : i < bs.length) : (bs.take (i + 1)).foldl (goT T cls) r = goT T cls ((bs.take i).foldl (goT T cls) r) bs[i] := by
  rw [List.take_succ_eq_append_getElem h, List.foldl_append]; rfl
theorem goT_stay {T : List (List Int)} {cls : Nat → Nat} {r : Int} {bs : List Nat} {i : Nat} (h : (bs.take i).foldl (goT T cls) r = -1) : bs.foldl (goT T cls) r = -1 := by
  rw [← List.take_append_drop i bs, List.foldl_append, h]
  exact goT_neg T cls _
theorem goT_low (T : List (List Int)) (cls : Nat → Nat) (bs : List Nat) (r : Int) (hr : -1 ≤ r) : ∀ i, -1 ≤ (bs.take i).foldl (goT T cls) r
  | 0 => hr
  | i + 1 => by
    by_cases h : i < bs.length
    · rw [goT_take h]; exact goT_ge _ _ _ _
    · rw [List.take_of_length_le (by omega)]
      have := goT_low T cls bs r hr i
      rw [List.take_of_length_le (by omega)] at this
      exact this
set_option maxHeartbeats 4000000 in
theorem trun_any (cls : Nat → Nat) (v : Value) (T : List (List Int)) (s : ByteArray) (w : World) (hv : TabAt w v T) (hT : TabOk T) (hc : ∀ b, b < 256 → cls b < 256) (hs : s.size < 1000000000) :
    Calls Try.prog 18 #[.agg (U8s cls), v, .string s] w fun e w' => e = .returned (.int .i64 (runT T cls (bytesOf s))) ∧ Below w.heap.size w w' := by
  obtain ⟨av, cv, rfl⟩ := hv.len
  obtain ⟨B0, hB⟩ : ∃ B, w.heap.size = B := ⟨_, rfl⟩
  have HB := Lib.hid hB
  have HNX := Lib.hid (fun (W : World) (hb : Below B0 w W) (row k : Nat) (hk : k < 256) => tnext_any _ T row k W (hv.below (by rw [hB]; exact hb)) hT hk)
  have HTL := hT.1
  have HNL := Lib.hid (nextT_lt hT)
  have HCC := Lib.hid hc
  clear hv hT hc
  obtain ⟨I0, hI0⟩ : ∃ I0, U8s cls = I0 := ⟨_, rfl⟩
  obtain ⟨w1, hw1⟩ : ∃ w1, w.alloc (.cells I0 24) = w1 := ⟨_, rfl⟩
  have HU : Hid (UBlk w1 B0 cls) := Lib.hid (by rw [← hw1, ← hI0, ← hB]; exact UBlk.new w cls)
  have HBW : Hid (Below B0 w w1) := Lib.hid (by rw [← hw1, ← hB]; exact new_one w _)
  obtain ⟨R, hR⟩ : ∃ R, runT T cls (bytesOf s) = R := ⟨_, rfl⟩
  have HR := Lib.hid hR
  rw [hI0, hB, hR]
  clear hR
  by_cases h0 : T.length = 0
  · have d0 : ((T.length : Int) == 0) = true := by simp [h0]
    have d1 : (T.length == 0) = true := by simp [h0]
    have HN := Lib.hid (show R = -1 from by rw [← HR.out]; unfold runT; rw [if_pos h0])
    clear h0 hI0
    go_enter Try.func18, Try.ntmps18
    go_wp2
    go_ret
    exact ⟨by rw [HN.out]; rfl, HBW.out⟩
  · have d0 : ((T.length : Int) == 0) = false := by rw [beq_eq_false_iff_ne]; omega
    have d1 : (T.length == 0) = false := by rw [beq_eq_false_iff_ne]; omega
    have HN := Lib.hid (show R = (bytesOf s).foldl (goT T cls) 0 from by rw [← HR.out]; unfold runT; rw [if_neg h0])
    have HST := Lib.hid (show ∀ i (h : i < s.size), ((bytesOf s).take (i + 1)).foldl (goT T cls) 0 = goT T cls (((bytesOf s).take i).foldl (goT T cls) 0) s[i].toNat from fun i h => by
      rw [goT_take (by rw [bytesOf_len]; exact h), bytesOf_get s i h])
    have HLO := Lib.hid (goT_low T cls (bytesOf s) 0 (by omega))
    have HFIN := Lib.hid (show ((bytesOf s).take s.size).foldl (goT T cls) 0 = R from by rw [HN.out, List.take_of_length_le (by rw [bytesOf_len]; omega)])
    have HSTAY := Lib.hid (show ∀ i, ((bytesOf s).take i).foldl (goT T cls) 0 = -1 → R = -1 from fun i h => by rw [HN.out]; exact goT_stay h)
    clear h0 hI0
    go_enter Try.func18, Try.ntmps18
    go_wp2
    clear d0 d1 hw1
    go_loopw [7, 8] (fun x z wr => ∃ (i : Nat), z = .int .i64 i ∧ i ≤ s.size ∧ x = .int .i64 (((bytesOf s).take i).foldl (goT T cls) 0) ∧ wr = w1) (fun _ z _ => s.size - (intOf z).toNat)
    case atStart => exact ⟨0, rfl, Nat.zero_le _, rfl, rfl⟩
    case round =>
      obtain ⟨i, rfl, hi, rfl, rfl⟩ := hrel
      by_cases hlt : i < s.size
      · have hd : decide ((i : Int) < s.size) = true := decide_eq_true (by omega)
        have HS1 := Lib.hid (HST.out i hlt)
        have hlo := HLO.out i
        have HSY := Lib.hid (HSTAY.out i)
        have HLN := Lib.hid (HNL.out)
        generalize ((bytesOf s).take i).foldl (goT T cls) 0 = r at *
        by_cases hr : r = -1
        · subst hr
          have HE := Lib.hid (HSY.out rfl)
          go_wp2
          go_ret
          exact ⟨by rw [HE.out]; rfl, HBW.out⟩
        · obtain ⟨row, rfl⟩ : ∃ row : Nat, r = row := ⟨r.toNat, by omega⟩
          have hb0 := s[i].toNat_lt
          have HGO := Lib.hid (show goT T cls (row : Nat) s[i].toNat = nextT T row (cls s[i].toNat) from by unfold goT; rw [if_neg (by omega), Int.toNat_natCast])
          have hne : ((row : Int) != -1) = true := by simp
          have hne2 : ((row : Int) == -1) = false := by simp
          obtain ⟨bb, hbb⟩ : ∃ bb, s[i].toNat = bb := ⟨_, rfl⟩
          have c0 := HU.out.cell (show s[i].toNat < 256 from hb0)
          have HCK := Lib.hid (HNX.out wr HBW.out row (cls s[i].toNat) (HCC.out _ hb0))
          rw [hbb] at HS1 HGO c0 HCK hb0
          have hbi : (bb : Int) < 256 := by omega
          clear hr hlo
          go_wp2_with (go_at_call 38; (with_reducible refine HCK.out.mono ?_); rintro e w5 ⟨rfl, e5⟩; subst w5)
          exact ⟨⟨i + 1, rfl, hlt, by rw [HS1.out, HGO.out], trivial⟩, by simp only [intOf]; omega⟩
      · have hd : decide ((i : Int) < s.size) = false := decide_eq_false (by omega)
        have hdn : decide (i < s.size) = false := decide_eq_false hlt
        obtain rfl : i = s.size := by omega
        rw [HFIN.out]
        go_wp2
        go_ret
        exact ⟨rfl, HBW.out⟩
end Go.Proofs.Ytiikmpgadmmjeaa
