/- The walk of DfacodeBack. -/
import Derived.Test.YtmhjabodhgacnaaPa
import Derived.Test.YtmhjabodhgacnaaPY
import Derived.Test.YtmhjabodhgacnaaXG
set_option maxRecDepth 100000
namespace Go.Proofs.Ytmhjabodhgacnaa
open Go.RowKit

theorem get_none0 : getB [] = none := by
  unfold getB
  rw [if_neg]
  rintro ⟨h, _⟩
  have : sealedB [] = false := rfl
  rw [this] at h
  cases h
set_option maxHeartbeats 16000000 in
theorem back_law (v : Value) (m : List Sta) (n : Nat) (v2 : Value) (l : List Nat) (w : World) (hv : MachAt w v m) (hml : m.length < 9223372036854775808) (hl : ∀ s ∈ m, s.arcs.length < 9223372036854775808) (hm : Mays m) (hn : n < 18446744073709551616) (hb : BytesAt w v2 l) (hbl : l.length < 9223372036854775808) (hx : ∀ x ∈ l, x < 256) :
    Calls Try.prog 5 #[v, .int .u64 n, v2] w fun e w' => e = .returned (.bool true) ∧ Below w.heap.size w w' := by
  obtain ⟨N, hN⟩ : ∃ N, w.heap.size = N := ⟨_, rfl⟩
  have HN := Lib.hid hN
  have HV := Lib.hid (fun W (hW : Below N w W) => hv.below (by rw [hN]; exact hW))
  have HY := Lib.hid (fun W (hW : Below N w W) => hb.below (by rw [hN]; exact hW))
  obtain ⟨av, cv, rfl⟩ := hv.len
  obtain ⟨ab, cb, rfl, _⟩ := hb.len
  have HAW : Hid (∀ W, Calls Try.prog 8 #[] W fun e w' => e = .returned (.bool true) ∧ Below W.heap.size W w') := Lib.hid awake_any
  have HL := Lib.hid hl
  have HM := Lib.hid hm
  have HXB := Lib.hid hx
  have HNU := Lib.hid (fun W => number11_any n W hn)
  have HVB := Lib.hid (valB_num hn l)
  have hk1 := numB_pos n
  have hk2 := numB_ten hn
  have HBY : Hid (∀ x ∈ numB n ++ l, x < 256) := Lib.hid (fun x h => by
    rcases List.mem_append.1 h with h | h
    · exact numB_bytes n x h
    · exact hx x h)
  clear hv hb hl hm hx hn
  rw [hN]
  by_cases h30 : m.length ≤ 30
  · have d1 : decide ((m.length : Int) > 30) = false := decide_eq_false (by omega)
    have d2 : decide ((30 : Int) < m.length) = false := decide_eq_false (by omega)
    have d3 : decide (30 < m.length) = false := decide_eq_false (by omega)
    by_cases h60 : l.length ≤ 60
    · have e1 : decide ((l.length : Int) > 60) = false := decide_eq_false (by omega)
      have e2 : decide ((60 : Int) < l.length) = false := decide_eq_false (by omega)
      have e3 : decide (60 < l.length) = false := decide_eq_false (by omega)
      have HL6 := Lib.hid h60
      clear hbl
      go_enter Try.func5, Try.ntmps5
      go_upto_region 7 with (first
        | (go_at_call 8; (with_reducible refine (HAW.out _).mono ?_); rintro e w2 ⟨rfl, hb2⟩; have HB2 : Hid (Below N w w2) := Lib.hid (by rw [← HN.out]; exact hb2); clear hb2)
        | (go_at_call 13; (with_reducible refine (HNU.out _).mono ?_); rintro e w3 ⟨v3, rfl, ho3, hb3⟩))
      have HO3 := ho3
      obtain ⟨a3, c3, rfl⟩ := HO3.out.form
      have HB3 : Hid (Below N w w3) := Lib.hid (HB2.out.trans (hb3.out.mono (by rw [← HN.out]; exact HB2.out.size)))
      have hNs : N ≤ w2.heap.size := by rw [← HN.out]; exact HB2.out.size
      have HC3 : Hid ((numB n).length ≤ c3) := Lib.hid (by obtain ⟨a, c, e, h, _⟩ := HO3.out.bytes; injection e with _ e2 e3; omega)
      have HNZ := Lib.hid hNs
      clear ho3 hb3 hNs
      obtain ⟨nx, hnx⟩ : ∃ nx, (numB n).length = nx := ⟨_, rfl⟩
      have HNX := Lib.hid hnx
      rw [hnx] at HVB hk1 hk2 HO3 HC3 ⊢
      clear hnx
      have q1 : decide ((nx : Int) < 1) = false := decide_eq_false (by omega)
      have q2 : decide ((nx : Int) > 10) = false := decide_eq_false (by omega)
      have q3 : decide ((10 : Int) < nx) = false := decide_eq_false (by omega)
      have q4 : decide (10 < nx) = false := decide_eq_false (by omega)
      have q5 : decide (nx < 1) = false := decide_eq_false (by omega)
      have q6 : nx ≠ 0 := by omega
      by_cases h0 : l.length = 0
      · have HE := Lib.hid (show numB n ++ l = numB n from by rw [List.eq_nil_of_length_eq_zero h0, List.append_nil])
        have HL0 := Lib.hid h0
        rw [HL0.out]
        clear h0 h60 e1 e2 e3
        go_upto_region 9 with (at_builtin; refine wpList_append_zero rfl _ _ rfl a3 ab nx c3 cb rfl rfl HC3.out ?_)
        have HB4 := HB3
        have HBX : Hid (BytesAt w3 (.slice a3 nx c3) (numB n ++ l)) := Lib.hid (by rw [HE.out]; exact HO3.out.bytes)
        have HLX : Hid ((numB n ++ l).length = nx) := Lib.hid (by rw [HE.out]; exact HNX.out)
        have HVA := Lib.hid (value_any (.slice a3 nx c3) (numB n ++ l) w3 HBX.out (by rw [HLX.out]; have := HL6.out; omega) HBY.out)
        rw [HVB.out] at HVA
        simp only [] at HVA
        have hNs : N ≤ w3.heap.size := by rw [← HN.out]; exact HB4.out.size
        have HNs := Lib.hid hNs
        clear hNs
        cases hc : checkB m
        · have HPU := Lib.hid (put_no _ m w3 (HV.out w3 HB4.out) HL.out HM.out hc)
          clear hc
          go_upto_region 11 with (first
            | (go_at_call 11; (with_reducible refine HVA.out.mono ?_); rintro e w5 ⟨rfl, e5⟩; subst w5)
            | (go_at_call 9; (with_reducible refine HPU.out.mono ?_); rintro e w6 ⟨a6, c6, rfl, ho6, hb6⟩))
          have HB6 : Hid (Below N w w6) := Lib.hid (HB4.out.trans (hb6.out.mono HNs.out))
          have HGE := Lib.hid (get_no _ [] w6 ho6.out.bytes (by decide) (fun x h => by cases h) ho6.out.low get_none0)
          go_wp2_with (go_at_call 18; (with_reducible refine HGE.out.mono ?_); rintro e w7 ⟨a7, c7, rfl, hm7, hb7⟩)
          go_ret
          exact ⟨rfl, HB6.out.trans (hb7.out.mono (by rw [← HN.out]; exact HB6.out.size))⟩
        · have HPU := Lib.hid (put_yes _ m w3 (HV.out w3 HB4.out) HL.out HM.out hc)
          have HPL : Hid ((putB m).length < 9223372036854775808) := Lib.hid (by rw [putB_len]; have := bodyB_len (good_len hc) (good_st hc HM.out); omega)
          have HGB := Lib.hid (getB_put hc HM.out)
          have HPB := Lib.hid (putB_bytes (good_st hc HM.out))
          clear hc
          go_upto_region 11 with (first
            | (go_at_call 11; (with_reducible refine HVA.out.mono ?_); rintro e w5 ⟨rfl, e5⟩; subst w5)
            | (go_at_call 9; (with_reducible refine HPU.out.mono ?_); rintro e w6 ⟨a6, c6, rfl, ho6, hb6⟩))
          have HB6 : Hid (Below N w w6) := Lib.hid (HB4.out.trans (hb6.out.mono HNs.out))
          have HGE := Lib.hid (get_yes _ (putB m) w6 ho6.out.bytes HPL.out HPB.out ho6.out.low HGB.out)
          generalize (putB m).length = np at *
          have HSM := Lib.hid (fun W u (hu : MachAt W u m) (hW : Below N w W) => rsame07_any u _ m m W hu (HV.out W hW) hml HL.out HL.out)
          rw [sameB_true.2 rfl] at HSM
          go_wp2_with (first
            | (go_at_call 18; (with_reducible refine HGE.out.mono ?_); rintro e w7 ⟨a7, c7, rfl, hm7, hb7⟩; have HB7 : Hid (Below N w w7) := Lib.hid (HB6.out.trans (hb7.out.mono (by rw [← HN.out]; exact HB6.out.size))); have HSM7 := Lib.hid (HSM.out w7 _ hm7.out HB7.out); clear hm7 hb7)
            | (go_at_call 20; (with_reducible refine HSM7.out.mono ?_); rintro e w8 ⟨rfl, hb8⟩; have HB8 : Hid (Below N w w8) := Lib.hid (HB7.out.trans (hb8.mono (by rw [← HN.out]; exact HB7.out.size))); clear hb8))
          go_ret
          exact ⟨rfl, HB8.out⟩
      · obtain ⟨adb, rfl⟩ := addr_at (HY.out w3 HB3.out) (by omega)
        have hpos : 0 < l.length := by omega
        have hla : nx + l.length ≤ 100000000 := by omega
        have HNW : Hid (N ≤ w3.heap.size) := Lib.hid (by rw [← HN.out]; exact HB3.out.size)
        have HO3' : Hid (OwnF w3 N (.slice a3 nx c3) (numB n)) := Lib.hid (by
          rcases HO3.out with h | ⟨g, cs, fz, e1, e2, e3, e4⟩
          · exact .inl (own_weak h HNZ.out)
          · exact .inr ⟨g, cs, fz, e1, Nat.le_trans HNZ.out e2, e3, e4⟩)
        go_upto_region 9 with (at_builtin; refine wpList_append_of rfl _ _ rfl N (.slice a3 nx c3) (numB n) l nx HNX.out rfl HO3'.out adb cb l.length rfl rfl (news_at (HY.out w3 HB3.out)) hpos hla HNW.out ?_; intro g4 cap4 w4 h2 h3 h4)
        have HO4 := Lib.hid h2
        have HB4 : Hid (Below N w w4) := Lib.hid (HB3.out.trans (HO3'.out.gr h4 HNW.out))
        have HBX := Lib.hid HO4.out.bytes
        have HLX : Hid ((numB n ++ l).length = nx + l.length) := Lib.hid (by rw [List.length_append, HNX.out])
        clear h2 h3 h4 hpos hla h60 h0
        have HVA := Lib.hid (value_any (.slice (some ⟨g4, 0, none⟩) (nx + l.length) cap4) (numB n ++ l) w4 HBX.out (by rw [HLX.out]; have := HL6.out; omega) HBY.out)
        rw [HVB.out] at HVA
        simp only [] at HVA
        have hNs : N ≤ w4.heap.size := by rw [← HN.out]; exact HB4.out.size
        have HNs := Lib.hid hNs
        clear hNs
        cases hc : checkB m
        · have HPU := Lib.hid (put_no _ m w4 (HV.out w4 HB4.out) HL.out HM.out hc)
          clear hc
          go_upto_region 11 with (first
            | (go_at_call 11; (with_reducible refine HVA.out.mono ?_); rintro e w5 ⟨rfl, e5⟩; subst w5)
            | (go_at_call 9; (with_reducible refine HPU.out.mono ?_); rintro e w6 ⟨a6, c6, rfl, ho6, hb6⟩))
          have HB6 : Hid (Below N w w6) := Lib.hid (HB4.out.trans (hb6.out.mono HNs.out))
          have HGE := Lib.hid (get_no _ [] w6 ho6.out.bytes (by decide) (fun x h => by cases h) ho6.out.low get_none0)
          go_wp2_with (go_at_call 18; (with_reducible refine HGE.out.mono ?_); rintro e w7 ⟨a7, c7, rfl, hm7, hb7⟩)
          go_ret
          exact ⟨rfl, HB6.out.trans (hb7.out.mono (by rw [← HN.out]; exact HB6.out.size))⟩
        · have HPU := Lib.hid (put_yes _ m w4 (HV.out w4 HB4.out) HL.out HM.out hc)
          have HPL : Hid ((putB m).length < 9223372036854775808) := Lib.hid (by rw [putB_len]; have := bodyB_len (good_len hc) (good_st hc HM.out); omega)
          have HGB := Lib.hid (getB_put hc HM.out)
          have HPB := Lib.hid (putB_bytes (good_st hc HM.out))
          clear hc
          go_upto_region 11 with (first
            | (go_at_call 11; (with_reducible refine HVA.out.mono ?_); rintro e w5 ⟨rfl, e5⟩; subst w5)
            | (go_at_call 9; (with_reducible refine HPU.out.mono ?_); rintro e w6 ⟨a6, c6, rfl, ho6, hb6⟩))
          have HB6 : Hid (Below N w w6) := Lib.hid (HB4.out.trans (hb6.out.mono HNs.out))
          have HGE := Lib.hid (get_yes _ (putB m) w6 ho6.out.bytes HPL.out HPB.out ho6.out.low HGB.out)
          generalize (putB m).length = np at *
          have HSM := Lib.hid (fun W u (hu : MachAt W u m) (hW : Below N w W) => rsame07_any u _ m m W hu (HV.out W hW) hml HL.out HL.out)
          rw [sameB_true.2 rfl] at HSM
          go_wp2_with (first
            | (go_at_call 18; (with_reducible refine HGE.out.mono ?_); rintro e w7 ⟨a7, c7, rfl, hm7, hb7⟩; have HB7 : Hid (Below N w w7) := Lib.hid (HB6.out.trans (hb7.out.mono (by rw [← HN.out]; exact HB6.out.size))); have HSM7 := Lib.hid (HSM.out w7 _ hm7.out HB7.out); clear hm7 hb7)
            | (go_at_call 20; (with_reducible refine HSM7.out.mono ?_); rintro e w8 ⟨rfl, hb8⟩; have HB8 : Hid (Below N w w8) := Lib.hid (HB7.out.trans (hb8.mono (by rw [← HN.out]; exact HB7.out.size))); clear hb8))
          go_ret
          exact ⟨rfl, HB8.out⟩
    · have e1 : decide ((l.length : Int) > 60) = true := decide_eq_true (by omega)
      have e2 : decide ((60 : Int) < l.length) = true := decide_eq_true (by omega)
      have e3 : decide (60 < l.length) = true := decide_eq_true (by omega)
      clear h60 hbl
      go_enter Try.func5, Try.ntmps5
      go_wp2_with (go_at_call 8; (with_reducible refine (HAW.out _).mono ?_); rintro e w2 ⟨rfl, hb2⟩; have HB2 : Hid (Below N w w2) := Lib.hid (by rw [← HN.out]; exact hb2); clear hb2)
      go_ret
      exact ⟨rfl, HB2.out⟩
  · have d1 : decide ((m.length : Int) > 30) = true := decide_eq_true (by omega)
    have d2 : decide ((30 : Int) < m.length) = true := decide_eq_true (by omega)
    have d3 : decide (30 < m.length) = true := decide_eq_true (by omega)
    clear h30 hbl hml
    go_enter Try.func5, Try.ntmps5
    go_wp2_with (go_at_call 8; (with_reducible refine (HAW.out _).mono ?_); rintro e w2 ⟨rfl, hb2⟩; have HB2 : Hid (Below N w w2) := Lib.hid (by rw [← HN.out]; exact hb2); clear hb2)
    go_ret
    exact ⟨rfl, HB2.out⟩
end Go.Proofs.Ytmhjabodhgacnaa
