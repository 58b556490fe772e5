/- The contract of classes.targets. -/
import Derived.Test.YtiikmpgadmmjeaaC2
set_option maxRecDepth 100000
namespace Go.Proofs.Ytiikmpgadmmjeaa
open Go.RowKit
attribute [local go_sem] zero_u8s zero_i64s

/-- Where a row leads by each byte, as far as a row is there. -/
def tgtT (T : List (List Int)) (row : Nat) (cls : Nat → Nat) : Nat → Int := fun b => if nextT T row (cls b) ≥ T.length then -1 else nextT T row (cls b)
theorem tgtT_far {T : List (List Int)} {row b : Nat} {cls : Nat → Nat} (h : nextT T row (cls b) ≥ T.length) : tgtT T row cls b = -1 := by unfold tgtT; rw [if_pos h]
theorem tgtT_at {T : List (List Int)} {row b : Nat} {cls : Nat → Nat} (h : ¬ nextT T row (cls b) ≥ T.length) : tgtT T row cls b = nextT T row (cls b) := by unfold tgtT; rw [if_neg h]
theorem tgts_result {w : World} {b : Nat} {f : Nat → Int} (h : IBlk w b f) {tmps : Array Value} (ht : tmps.getD 6 undef = .pointer (some ⟨b, 0, none⟩)) : (results Try.f36 tmps).run Try.prog w = .ok (.agg (Ints f)) w :=
  results_cell_row (fn := Try.f36) rfl tmps w b _ _ _ _ ht h Try.underlying64 rfl (by rw [infoInts, ints_size])
set_option maxHeartbeats 4000000 in
theorem targets10_any (cls : Nat → Nat) (v : Value) (T : List (List Int)) (row : Nat) (w : World) (hv : TabAt w v T) (hT : TabOk T) (hc : ∀ b, b < 256 → cls b < 256) :
    Calls Try.prog 36 #[.agg (U8s cls), v, .int .i64 row] w fun e w' => e = .returned (.agg (Ints (tgtT T row cls))) ∧ Below w.heap.size w w' := by
  obtain ⟨av, cv, rfl⟩ := hv.len
  have HNX := Lib.hid (fun (W : World) (hb : Below w.heap.size w W) (k : Nat) (hk : k < 256) => tnext_any _ T row k W (hv.below hb) hT hk)
  have HLT := Lib.hid (nextT_lt hT row)
  have HTL := hT.1
  clear hv hT
  have HC := Lib.hid hc
  clear hc
  obtain ⟨B0, hB⟩ : ∃ B, w.heap.size = B := ⟨_, rfl⟩
  have HB := Lib.hid hB
  have hB1 : B0 ≠ B0 + 1 := by omega
  obtain ⟨I0, hI0⟩ : ∃ I0, U8s cls = I0 := ⟨_, rfl⟩
  obtain ⟨I1, hI1⟩ : ∃ I1, Ints (fun _ => 0) = I1 := ⟨_, rfl⟩
  obtain ⟨w1, hw1⟩ : ∃ w1, ((w.alloc (.cells I0 24)).alloc (.cells I1 64)).alloc (.cells I1 64) = w1 := ⟨_, rfl⟩
  have hsz : w1.heap.size = B0 + 3 := by rw [← hw1]; simp [hB]
  have HU : Hid (UBlk w1 B0 cls) := Lib.hid (by
    rw [← hw1]; unfold UBlk
    rw [heap_alloc_old _ _ (by simp; omega), heap_alloc_old _ _ (by simp; omega), hI0, ← hB]; exact heap_alloc_new w _)
  have HA0 : Hid (IBlk w1 (B0 + 1) fun _ => 0) := Lib.hid (by
    rw [← hw1]; unfold IBlk
    rw [heap_alloc_old _ _ (by simp; omega), hI1]
    have := heap_alloc_new (w.alloc (.cells I0 24)) (.cells I1 64)
    rw [World.size_alloc, hB] at this; exact this)
  have HA1 : Hid (IBlk w1 (B0 + 2) fun _ => 0) := Lib.hid (by
    rw [← hw1]; unfold IBlk
    rw [hI1]
    have := heap_alloc_new ((w.alloc (.cells I0 24)).alloc (.cells I1 64)) (.cells I1 64)
    rw [World.size_alloc, World.size_alloc, hB] at this; exact this)
  have HBW : Hid (Below B0 w w1) := Lib.hid (by
    rw [← hw1, ← hB]
    exact (((Below.refl _ w).alloc (Nat.le_refl _) _).alloc (by simp) _).alloc (by simp; omega) _)
  have hz := zero_i64s
  rw [hI1] at hz
  rw [hI0, hB]
  have hBB : B0 + 1 + 1 = B0 + 2 := rfl
  go_enter Try.func36, Try.ntmps36
  go_wp2
  clear hz hI1 hI0 hw1
  go_loopw [8, 9] (fun _ z wr => ∃ k : Nat, z = .int .i64 k ∧ k ≤ 256 ∧ B0 + 3 ≤ wr.heap.size ∧ Hid (UBlk wr B0 cls) ∧ Hid (IBlk wr (B0 + 1) fun _ => 0) ∧ Hid (IBlk wr (B0 + 1 + 1) fun i => if i < k then tgtT T row cls i else 0) ∧ Hid (Below B0 w wr)) (fun _ z _ => 256 - (intOf z).toNat)
  case atStart => exact ⟨0, rfl, Nat.zero_le _, by omega, HU, HA0, Lib.hid (HA1.out.congr fun i _ => by rw [if_neg (by omega)]), HBW⟩
  case round =>
    clear HU HA0 HA1 HBW hsz hBB
    obtain ⟨k, rfl, hk, hsz, HU, HA0, HA1, HBW⟩ := hrel
    by_cases hlt : k < 256
    · have hd : decide ((k : Int) < 256) = true := decide_eq_true (by omega)
      have hk256 : (k : Int) < 256 := by omega
      have c0 := HU.out.cell hlt
      have hfz : wr.frozen? ⟨B0 + 1 + 1, k, none⟩ = false := HA1.out.frozen
      have c1 := HA1.out.cell hlt
      have HCK := Lib.hid (HNX.out wr (by rw [HB.out]; exact HBW.out) (cls k) (HC.out k hlt))
      have hlw := HLT.out (cls k)
      have hge := nextT_ge T row (cls k)
      have hb1 : B0 ≠ B0 + 1 + 1 := by omega
      have hb2 : B0 + 1 ≠ B0 + 1 + 1 := by omega
      obtain ⟨x, hx⟩ : ∃ x, nextT T row (cls k) = x := ⟨_, rfl⟩
      have HX := Lib.hid hx
      rw [hx] at HCK hlw hge
      clear hx
      have HN1 := Lib.hid (HA1.out.set (k := k) (g := fun i => if i < k + 1 then (if i = k then x else tgtT T row cls i) else 0) (v := x) (by simp) (fun i _ hne => by
        by_cases h : i < k
        · rw [if_pos h, if_pos (by omega), if_neg hne]
        · rw [if_neg h, if_neg (by omega)]))
      have HN0 := Lib.hid (HA0.out.other (a := ⟨B0 + 1 + 1, k, none⟩) hb2 (.int .i64 x))
      have HNU := Lib.hid (HU.out.other (a := ⟨B0 + 1 + 1, k, none⟩) hb1 (.int .i64 x))
      have HNB : Hid (Below B0 w (wr.setCell ⟨B0 + 1 + 1, k, none⟩ (.int .i64 x))) := Lib.hid (HBW.out.setCell (by show B0 ≤ B0 + 1 + 1; omega) _)
      by_cases hxT : x ≥ T.length
      · have hd2 : decide (x ≥ (T.length : Int)) = true := decide_eq_true hxT
        have hd3 : decide ((T.length : Int) ≤ x) = true := decide_eq_true hxT
        have HTG := Lib.hid (show tgtT T row cls k = -1 from tgtT_far (by rw [HX.out]; exact hxT))
        have HM1 := Lib.hid (HN1.out.set (k := k) (g := fun i => if i < k + 1 then tgtT T row cls i else 0) (v := -1) (by rw [if_pos (by omega)]; exact HTG.out) (fun i _ hne => by
          by_cases h : i < k + 1
          · rw [if_pos h, if_pos h, if_neg hne]
          · rw [if_neg h, if_neg h]))
        have HM0 := Lib.hid (HN0.out.other (a := ⟨B0 + 1 + 1, k, none⟩) hb2 (.int .i64 (-1)))
        have HMU := Lib.hid (HNU.out.other (a := ⟨B0 + 1 + 1, k, none⟩) hb1 (.int .i64 (-1)))
        have HMB : Hid (Below B0 w ((wr.setCell ⟨B0 + 1 + 1, k, none⟩ (.int .i64 x)).setCell ⟨B0 + 1 + 1, k, none⟩ (.int .i64 (-1)))) := Lib.hid (HNB.out.setCell (by show B0 ≤ B0 + 1 + 1; omega) _)
        clear HN1 HN0 HNU HNB HU HA0 HA1 HBW
        go_wp2_with (go_at_call 38; (with_reducible refine HCK.out.mono ?_); rintro e w5 ⟨rfl, e5⟩; subst w5)
        exact ⟨⟨k + 1, rfl, hlt, by simp; omega, HMU, HM0, HM1, HMB⟩, by simp only [intOf]; omega⟩
      · have hd2 : decide (x ≥ (T.length : Int)) = false := decide_eq_false hxT
        have hd3 : decide ((T.length : Int) ≤ x) = false := decide_eq_false hxT
        have HTG := Lib.hid (show tgtT T row cls k = x from (tgtT_at (by rw [HX.out]; exact hxT)).trans HX.out)
        have HM1 := Lib.hid (HN1.out.congr (g := fun i => if i < k + 1 then tgtT T row cls i else 0) (fun i _ => by
          by_cases h : i < k + 1
          · rw [if_pos h, if_pos h]
            by_cases e : i = k
            · subst e; rw [if_pos rfl, HTG.out]
            · rw [if_neg e]
          · rw [if_neg h, if_neg h]))
        clear HN1 HU HA0 HA1 HBW
        go_wp2_with (go_at_call 38; (with_reducible refine HCK.out.mono ?_); rintro e w5 ⟨rfl, e5⟩; subst w5)
        exact ⟨⟨k + 1, rfl, hlt, by simp; omega, HNU, HN0, HM1, HNB⟩, by simp only [intOf]; omega⟩
    · obtain rfl : k = 256 := by omega
      have hd : decide (((256 : Nat) : Int) < 256) = false := by simp
      replace HA1 := Lib.hid (HA1.out.congr (g := tgtT T row cls) fun i hi => by rw [if_pos hi])
      go_wp2_with (first | (refine wpList_load_ints (B0 + 1 + 1) (tgtT T row cls) HA1.out rfl _ rfl rfl ?_) | (refine wpList_store_ints (B0 + 1) (fun _ => 0) (tgtT T row cls) HA0.out rfl _ _ rfl rfl rfl ?_))
      have HRES := Lib.hid (HA0.out.setRow (g := tgtT T row cls))
      have HRB := Lib.hid (below_setRow HBW.out (show B0 ≤ B0 + 1 by omega) (Ints (tgtT T row cls)))
      generalize wr.setRow (B0 + 1) (Ints (tgtT T row cls)) = w9 at *
      exact bodyPost_ret (v := .agg (Ints (tgtT T row cls))) (tgts_result HRES.out rfl) rfl ⟨rfl, HRB.out⟩
end Go.Proofs.Ytiikmpgadmmjeaa
