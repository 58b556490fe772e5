/- The walk of DfacodeGets. -/
import Derived.Test.YtmhjabodhgacnaaPZ
import Derived.Test.YtmhjabodhgacnaaPY
import Derived.Lib.ConvBytes
import Derived.Test.YtmhjabodhgacnaaXG
set_option maxRecDepth 100000
namespace Go.Proofs.Ytmhjabodhgacnaa
open Go.RowKit

theorem below_bytes (w : World) (e : TypeId) (s : ByteArray) : Below w.heap.size w (Lib.bytesWorld w e s) :=
  ⟨by unfold Lib.bytesWorld World.freeze; rw [if_neg (by decide)]; rfl, by unfold Lib.bytesWorld World.freeze; rw [if_neg (by decide)]; rfl, by unfold Lib.bytesWorld World.freeze; rw [if_neg (by decide)]; rfl, by rw [Lib.bytesWorld_size]; omega, fun k hk => Lib.bytesWorld_at_old w e s k hk⟩
theorem conv_back (w : World) (s : ByteArray) : (convert 9 25 (.string s)).run Try.prog w = .ok (.slice (some ⟨w.heap.size, 0, none⟩) s.size (grownCap w s.size 0 5)) (Lib.bytesWorld w 5 s) :=
  Lib.run_convert_string_bytes w _ _ _ s Try.underlying9 Try.underlying25 Try.underlying5
theorem back_at (w : World) (s : ByteArray) : BytesAt (Lib.bytesWorld w 5 s) (.slice (some ⟨w.heap.size, 0, none⟩) s.size (grownCap w s.size 0 5)) (bytesOf s) := by
  refine ⟨some ⟨w.heap.size, 0, none⟩, grownCap w s.size 0 5, by rw [bytesOf_len], by rw [bytesOf_len]; exact grownCap_ge w s.size 0 _, fun i hi => ⟨w.heap.size, 0, rfl, ?_⟩⟩
  have hi2 : i < s.size := by rwa [bytesOf_len] at hi
  rw [Nat.zero_add, Lib.bytesWorld_cell w _ s i hi2, bytesOf_get s i hi2 hi]
  congr 2
  rw [List.getD_eq_getElem?_getD, List.getElem?_eq_getElem (by simpa using hi2), Option.getD_some]
  rfl
theorem back_low (w : World) (s : ByteArray) (n c : Nat) : LowB (Lib.bytesWorld w 5 s).heap.size (.slice (some ⟨w.heap.size, 0, none⟩) n c) := by
  intro k hk
  simp only [Value.ownBlock, Option.some.injEq] at hk
  rw [Lib.bytesWorld_size]
  omega
theorem back_type (w : World) (s : ByteArray) : ∃ cs fz, (Lib.bytesWorld w 5 s).heap[w.heap.size]? = some (.cells cs 5 fz) := ⟨_, _, Lib.bytesWorld_at_new w _ s⟩
theorem mach_lens {l : List Nat} (hb : ∀ x ∈ l, x < 256) : ∀ s ∈ (getB l).getD [], s.arcs.length < 9223372036854775808 := by
  intro s hs
  cases h : getB l with
  | none => rw [h] at hs; cases hs
  | some m =>
    rw [h] at hs
    obtain ⟨h1, h2, _⟩ := getB_some hb h
    have := (good_st h1 h2 s hs).2.1
    omega
theorem mach_len {l : List Nat} (hb : ∀ x ∈ l, x < 256) : ((getB l).getD []).length < 9223372036854775808 := by
  cases h : getB l with
  | none => show (0 : Nat) < _; omega
  | some m =>
    obtain ⟨h1, h2, _⟩ := getB_some hb h
    have := good_len h1
    show m.length < _
    omega
set_option maxHeartbeats 8000000 in
theorem gets_law (v : Value) (l : List Nat) (right : Bool) (w : World) (hv : BytesAt w v l) (hl : l.length < 9223372036854775808) (hb : ∀ x ∈ l, x < 256) :
    Calls Try.prog 4 #[v, .bool right] w fun e w' => e = .returned (.bool true) ∧ Below w.heap.size w w' := by
  obtain ⟨N, hN⟩ : ∃ N, w.heap.size = N := ⟨_, rfl⟩
  have HN := Lib.hid hN
  have HV := Lib.hid (fun W (hW : Below N w W) => hv.below (by rw [hN]; exact hW))
  obtain ⟨av, cv, rfl, _⟩ := hv.len
  have HAW : Hid (∀ W, Calls Try.prog 8 #[] W fun e w' => e = .returned (.bool true) ∧ Below W.heap.size W w') := Lib.hid awake_any
  have HBB := Lib.hid hb
  clear hv hb
  rw [hN]
  by_cases h400 : l.length ≤ 400
  · have d1 : decide ((l.length : Int) > 400) = false := decide_eq_false (by omega)
    have d2 : decide ((400 : Int) < l.length) = false := decide_eq_false (by omega)
    have d3 : decide (400 < l.length) = false := decide_eq_false (by omega)
    obtain ⟨L, hL⟩ : ∃ L, (if right then l ++ fourB (sumB l) else l) = L := ⟨_, rfl⟩
    have HLN : Hid (L.length ≤ 404) := Lib.hid (by rw [← hL]; split; rw [List.length_append, fourB_len]; omega; omega)
    have HLB : Hid (∀ x ∈ L, x < 256) := Lib.hid (by
      rw [← hL]
      split
      · intro x hx
        rcases List.mem_append.1 hx with hx | hx
        · exact HBB.out x hx
        · exact fourB_bytes _ x hx
      · exact HBB.out)
    obtain ⟨s, hs⟩ : ∃ s, strOf L = s := ⟨_, rfl⟩
    have HS : Hid (bytesOf s = L) := Lib.hid (by rw [← hs]; exact strOf_bytes HLB.out)
    have HSZ : Hid (s.size = L.length) := Lib.hid (by rw [← hs]; exact strOf_size L)
    have HRG := Lib.hid (fun W => rget_any s L HS.out (by have := HLN.out; omega) W)
    have HGT := Lib.hid (fun W v hv hl => get_any v L W hv (by have := HLN.out; omega) HLB.out hl)
    have HSM := Lib.hid (fun W v u hv hu => rsame07_any v u ((getB L).getD []) ((getB L).getD []) W hv hu (mach_len HLB.out) (mach_lens HLB.out) (mach_lens HLB.out))
    have hsz : s.size ≤ 404 := by rw [HSZ.out]; exact HLN.out
    have HS0 := Lib.hid (show right = false → strOf l = s from fun h => by subst h; rw [← hs, ← hL]; rfl)
    have HS1 := Lib.hid (show right = true → strOf l ++ strOf (fourB (sumB l)) = s from fun h => by subst h; rw [← hs, ← hL, ← strOf_append]; rfl)
    have HSU := Lib.hid (fun W => rsum_any (strOf l) l (strOf_bytes HBB.out) (by rw [strOf_size]; omega) W)
    have HFO := Lib.hid (fun W => rfour_any (sumB l) (sumB_lt _) W)
    have HZ1 : Hid ((strOf l).size ≤ 400) := Lib.hid (by rw [strOf_size]; exact h400)
    have HZ4 : Hid ((strOf (fourB (sumB l))).size = 4) := Lib.hid (by rw [strOf_size]; rfl)
    clear hL hs h400 hl
    obtain ⟨s1, hs1⟩ : ∃ s1, strOf l = s1 := ⟨_, rfl⟩
    rw [hs1] at HS0 HS1 HSU HZ1
    generalize sumB l = q at *
    generalize strOf (fourB q) = s4 at *
    have HS1E := Lib.hid hs1
    clear hs1
    go_enter Try.func4, Try.ntmps4
    go_upto_region 6 with (go_at_call 8; (with_reducible refine (HAW.out _).mono ?_); rintro e w2 ⟨rfl, hb2⟩)
    have HB2 : Hid (Below N w w2) := Lib.hid (by rw [← HN.out]; exact hb2)
    have hcv := conv_bytes (HV.out w2 HB2.out)
    rw [HS1E.out] at hcv
    clear hb2
    cases right
    · have HE := HS0.out rfl
      rw [HE] at hcv
      clear HS0 HS1 HE
      have hcb := conv_back w2 s
      have HGT9 := Lib.hid (HGT.out (Lib.bytesWorld w2 5 s) _ (by have h := back_at w2 s; rw [HS.out] at h; exact h) (back_low w2 s s.size (grownCap w2 s.size 0 5)))
      have HB3 : Hid (Below N w w2) := HB2
      go_upto_region 10 with (go_at_call 18; (with_reducible refine HGT9.out.mono ?_); rintro e w5 ⟨u5, rfl, hm5, hb5⟩)
      have HM5 := Lib.hid hm5.out
      obtain ⟨a5, c5, rfl⟩ := HM5.out.len
      have HB5 : Hid (Below N w w5) := Lib.hid ((HB3.out.trans ((below_bytes w2 5 s).mono (by rw [← HN.out]; exact HB3.out.size))).trans (hb5.out.mono (by rw [Lib.bytesWorld_size, ← HN.out]; have := HB3.out.size; omega)))
      have HRG5 := Lib.hid (HRG.out w5)
      clear hm5 hb5 HGT9
      go_upto_region 11 with (go_at_call 19; (with_reducible refine HRG5.out.mono ?_); rintro e w6 ⟨u6, rfl, hm6, hb6⟩)
      have HSM6 := Lib.hid (HSM.out w6 _ u6 (HM5.out.below hb6.out) hm6.out)
      obtain ⟨a6, c6, rfl⟩ := hm6.out.len
      have HB6 : Hid (Below N w w6) := Lib.hid (HB5.out.trans (hb6.out.mono (by rw [← HN.out]; exact HB5.out.size)))
      have hee : (errV (getB L).isSome == errV (getB L).isSome) = true := by simp
      rw [sameB_true.2 rfl] at HSM6
      generalize errV (getB L).isSome = er at *
      clear hm6 hb6
      go_wp2_with (go_at_call 20; (with_reducible refine HSM6.out.mono ?_); rintro e w7 ⟨rfl, hb7⟩; have HB7 : Hid (Below N w w7) := Lib.hid (HB6.out.trans (hb7.mono (by rw [← HN.out]; exact HB6.out.size))); clear hb7)
      go_ret
      exact ⟨rfl, HB7.out⟩
    · have HE := Lib.hid (HS1.out rfl)
      have HB3' := HB2
      have hz1 := HZ1.out
      have hz4 := HZ4.out
      go_upto_region 9 with (first
        | (go_at_call 16; (with_reducible refine (HSU.out _).mono ?_); rintro e w3 ⟨rfl, e3⟩; subst w3)
        | (go_at_call 17; (with_reducible refine (HFO.out _).mono ?_); rintro e w4 ⟨rfl, hb4⟩))
      rw [HE.out]
      have HB4 : Hid (Below N w w4) := Lib.hid (HB2.out.trans (hb4.mono (by rw [← HN.out]; exact HB2.out.size)))
      clear hz1 hz4 hb4 hcv
      have hcb := conv_back w4 s
      have HGT9 := Lib.hid (HGT.out (Lib.bytesWorld w4 5 s) _ (by have h := back_at w4 s; rw [HS.out] at h; exact h) (back_low w4 s s.size (grownCap w4 s.size 0 5)))
      have HB3 : Hid (Below N w w4) := HB4
      go_upto_region 10 with (go_at_call 18; (with_reducible refine HGT9.out.mono ?_); rintro e w5 ⟨u5, rfl, hm5, hb5⟩)
      have HM5 := Lib.hid hm5.out
      obtain ⟨a5, c5, rfl⟩ := HM5.out.len
      have HB5 : Hid (Below N w w5) := Lib.hid ((HB3.out.trans ((below_bytes w4 5 s).mono (by rw [← HN.out]; exact HB3.out.size))).trans (hb5.out.mono (by rw [Lib.bytesWorld_size, ← HN.out]; have := HB3.out.size; omega)))
      have HRG5 := Lib.hid (HRG.out w5)
      clear hm5 hb5 HGT9
      go_upto_region 11 with (go_at_call 19; (with_reducible refine HRG5.out.mono ?_); rintro e w6 ⟨u6, rfl, hm6, hb6⟩)
      have HSM6 := Lib.hid (HSM.out w6 _ u6 (HM5.out.below hb6.out) hm6.out)
      obtain ⟨a6, c6, rfl⟩ := hm6.out.len
      have HB6 : Hid (Below N w w6) := Lib.hid (HB5.out.trans (hb6.out.mono (by rw [← HN.out]; exact HB5.out.size)))
      have hee : (errV (getB L).isSome == errV (getB L).isSome) = true := by simp
      rw [sameB_true.2 rfl] at HSM6
      generalize errV (getB L).isSome = er at *
      clear hm6 hb6
      go_wp2_with (go_at_call 20; (with_reducible refine HSM6.out.mono ?_); rintro e w7 ⟨rfl, hb7⟩; have HB7 : Hid (Below N w w7) := Lib.hid (HB6.out.trans (hb7.mono (by rw [← HN.out]; exact HB6.out.size))); clear hb7)
      go_ret
      exact ⟨rfl, HB7.out⟩
  · have d1 : decide ((l.length : Int) > 400) = true := decide_eq_true (by omega)
    have d2 : decide ((400 : Int) < l.length) = true := decide_eq_true (by omega)
    have d3 : decide (400 < l.length) = true := decide_eq_true (by omega)
    clear h400 hl
    go_enter Try.func4, Try.ntmps4
    go_wp2_with (go_at_call 8; (with_reducible refine (HAW.out _).mono ?_); rintro e w2 ⟨rfl, hb2⟩; have HB2 : Hid (Below N w w2) := Lib.hid (by rw [← HN.out]; exact hb2); clear hb2)
    go_ret
    exact ⟨rfl, HB2.out⟩
end Go.Proofs.Ytmhjabodhgacnaa
