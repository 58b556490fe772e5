/- Contract: the reference's Put. -/
import Derived.Test.YtmhjabodhgacnaaPV
import Derived.Test.YtmhjabodhgacnaaXH
set_option maxRecDepth 100000
namespace Go.Proofs.Ytmhjabodhgacnaa
open Go.RowKit

/-- What the reference's Put tells. -/
def putS (m : List Sta) : List Nat := if checkB m then putB m else []
set_option maxHeartbeats 8000000 in
theorem rput_any (v : Value) (m : List Sta) (w : World) (hv : MachAt w v m) (hl : ∀ s ∈ m, s.arcs.length < 9223372036854775808) (hm : Mays m) :
    Calls Try.prog 10 #[v] w fun e w' => e = .returned (.tuple #[.string (strOf (putS m)), .int .i64 (errV (checkB m))]) ∧ Hid (Below w.heap.size w w') := by
  have HCK := Lib.hid (rcheck07_any v m w hv hl hm)
  have HV := Lib.hid hv
  have HGS := Lib.hid (fun h => good_st (m := m) h hm)
  cases hc : checkB m
  · have HP : Hid (putS m = []) := Lib.hid (by unfold putS; rw [hc]; rfl)
    rw [hc] at HCK
    have HCK : Hid (Calls Try.prog 21 #[v] w fun e w' => e = .returned (.int .i64 110) ∧ Below w.heap.size w w') := HCK
    clear hc hv hl hm
    go_enter Try.func10, Try.ntmps10
    go_wp2_with (go_at_call 21; (with_reducible refine HCK.out.mono ?_); rintro e w2 ⟨rfl, hb2⟩)
    go_ret2
    exact ⟨by rw [HP.out]; rfl, Lib.hid hb2⟩
  · have HP : Hid (putS m = putB m) := Lib.hid (by unfold putS; rw [hc]; rfl)
    rw [hc] at HCK
    have HCK : Hid (Calls Try.prog 21 #[v] w fun e w' => e = .returned (.int .i64 0) ∧ Below w.heap.size w w') := HCK
    have hml := good_len hc
    have HOS := HGS.out hc
    have HBY := Lib.hid (fun W hW => rbytes_any v m W (HV.out.below hW) hml HOS)
    have HBL : Hid ((bodyB m).length ≤ 20000000) := Lib.hid (bodyB_len hml HOS)
    have HZ : Hid ((strOf (bodyB m)).size ≤ 20000000) := Lib.hid (by rw [strOf_size]; exact HBL.out)
    have HSU := Lib.hid (fun W => rsum_any (strOf (bodyB m)) (bodyB m) (strOf_bytes (bodyB_bytes HOS)) (by rw [strOf_size]; have := HBL.out; omega) W)
    have HFO := Lib.hid (fun W => rfour_any (sumB (bodyB m)) (sumB_lt _) W)
    have HPE := Lib.hid (show strOf (putB m) = strOf (bodyB m) ++ strOf (fourB (sumB (bodyB m))) from by unfold putB; rw [strOf_append])
    have HZ4 : Hid ((strOf (fourB (sumB (bodyB m)))).size = 4) := Lib.hid (by rw [strOf_size]; rfl)
    obtain ⟨s1, hs1⟩ : ∃ s1, strOf (bodyB m) = s1 := ⟨_, rfl⟩
    rw [hs1] at HBY HZ HSU HPE
    obtain ⟨q, hq⟩ : ∃ q, sumB (bodyB m) = q := ⟨_, rfl⟩
    rw [hq] at HSU HFO HPE HZ4
    obtain ⟨s4, hs4⟩ : ∃ s4, strOf (fourB q) = s4 := ⟨_, rfl⟩
    rw [hs4] at HFO HPE HZ4
    clear hc hv hl hm hml HOS hs1 hq hs4 HGS
    rw [HP.out, HPE.out]
    go_enter Try.func10, Try.ntmps10
    have hz1 := HZ.out
    have hz4 := HZ4.out
    go_wp2_with (first
      | (go_at_call 21; (with_reducible refine HCK.out.mono ?_); rintro e w2 ⟨rfl, hb2⟩; have HB2 := Lib.hid hb2; have HBY2 := Lib.hid (HBY.out w2 hb2); clear hb2)
      | (go_at_call 26; (with_reducible refine HBY2.out.mono ?_); rintro e w3 ⟨rfl, hb3⟩)
      | (go_at_call 16; (with_reducible refine (HSU.out _).mono ?_); rintro e w4 ⟨rfl, e4⟩; subst w4)
      | (go_at_call 17; (with_reducible refine (HFO.out _).mono ?_); rintro e w5 ⟨rfl, hb5⟩; have HB5 := Lib.hid hb5; clear hb5))
    go_ret2
    exact ⟨rfl, Lib.hid (HB2.out.trans ((hb3.out.trans (HB5.out.mono hb3.out.size)).mono HB2.out.size))⟩
end Go.Proofs.Ytmhjabodhgacnaa
