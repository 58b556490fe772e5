/- Contract: the reference's Get. -/
import Derived.Test.YtmhjabodhgacnaaPW
import Derived.Test.YtmhjabodhgacnaaPI
import Derived.Test.YtmhjabodhgacnaaPL
import Derived.Lib.MinMax
set_option maxRecDepth 100000
namespace Go.Proofs.Ytmhjabodhgacnaa
open Go.RowKit

theorem cut_bytes (s : ByteArray) (k : Nat) : bytesOf (s.extract k s.size) = (bytesOf s).drop k := by
  rw [ext_bytes, List.take_of_length_le (by rw [bytesOf_len]; omega)]
/-- How arcs are read on. -/
def ReadsA (c : Nat) (r0 : List Nat) (j : Nat) (ys : List Arc3) (r : List Nat) : Prop := ys.length = j ∧ j ≤ c ∧ rfA c r0 = (ys ++ (rfA (c - j) r).1, (rfA (c - j) r).2)
def nextA (r : List Nat) : Arc3 := ⟨r[0]?.getD 0, r[1]?.getD 0, (min (valB (r.drop 2)).1 4096 : Nat)⟩
def restA (r : List Nat) : List Nat := r.drop (2 + (valB (r.drop 2)).2)
theorem ReadsA.start (c : Nat) (r : List Nat) : ReadsA c r 0 [] r := ⟨rfl, Nat.zero_le _, rfl⟩
theorem ReadsA.next {c j : Nat} {r0 r : List Nat} {ys : List Arc3} (h : ReadsA c r0 j ys r) (hj : j < c) (hl : 2 < r.length) : ReadsA c r0 (j + 1) (ys ++ [nextA r]) (restA r) := by
  obtain ⟨h1, h2, h3⟩ := h
  refine ⟨by rw [List.length_append, h1]; rfl, hj, ?_⟩
  rw [h3, show c - j = (c - (j + 1)) + 1 from by omega, rfA, if_pos hl, List.append_assoc]
  rfl
theorem ReadsA.stop {c j : Nat} {r0 r : List Nat} {ys : List Arc3} (h : ReadsA c r0 j ys r) (he : j = c ∨ ¬ 2 < r.length) : rfA c r0 = (ys, r) := by
  obtain ⟨h1, h2, h3⟩ := h
  rw [h3]
  have : rfA (c - j) r = ([], r) := by
    rcases he with rfl | he
    · rw [Nat.sub_self, rfA]
    · cases c - j with
      | zero => rfl
      | succ n => rw [rfA, if_neg he]
  rw [this, List.append_nil]
/-- How states are read on. -/
def ReadsS (c : Nat) (r0 : List Nat) (j : Nat) (ys : List Sta) (r : List Nat) : Prop := ys.length = j ∧ j ≤ c ∧ (rfS c r0).1 = ys ++ (rfS (c - j) r).1
theorem ReadsS.start (c : Nat) (r : List Nat) : ReadsS c r 0 [] r := ⟨rfl, Nat.zero_le _, rfl⟩
theorem ReadsS.next {c j : Nat} {r0 r : List Nat} {ys : List Sta} (h : ReadsS c r0 j ys r) (hj : j < c) : ReadsS c r0 (j + 1) (ys ++ [(rfSt r).1]) (rfSt r).2 := by
  obtain ⟨h1, h2, h3⟩ := h
  refine ⟨by rw [List.length_append, h1]; rfl, hj, ?_⟩
  rw [h3, show c - j = (c - (j + 1)) + 1 from by omega, rfS, List.append_assoc]
  rfl
theorem ReadsS.stop {c j : Nat} {r0 r : List Nat} {ys : List Sta} (h : ReadsS c r0 j ys r) (he : j = c) : (rfS c r0).1 = ys := by
  obtain ⟨h1, h2, h3⟩ := h
  rw [h3, he, Nat.sub_self, rfS, List.append_nil]
/-- What the reference's Get tells. -/
def RGetP (l : List Nat) (w : World) (e : Ending) (w' : World) : Prop := ∃ u, e = .returned (.tuple #[u, .int .i64 (errV (getB l).isSome)]) ∧ Hid (MachAt w' u ((getB l).getD [])) ∧ Hid (Below w.heap.size w w')
theorem rfGet_short {b : List Nat} (h : b.length < 5) : rfGet b = none := by unfold rfGet; rw [if_neg (by omega)]
theorem rfGet_head {b : List Nat} (h : b.take 4 ≠ headB) : rfGet b = none := by unfold rfGet; rw [if_neg (fun h1 => h h1.2)]
theorem rfGet_on {b : List Nat} (h : 5 ≤ b.length) (h2 : b.take 4 = headB) : rfGet b = if checkB (rfM (b.drop 4)) = true ∧ putB (rfM (b.drop 4)) = b then some (rfM (b.drop 4)) else none := by unfold rfGet; rw [if_pos ⟨h, h2⟩]
theorem head_list : (strOf headB).toList = [68, 70, 65, 49] := by rw [ByteArray.toList_eq]; rfl
theorem head_test (s : ByteArray) : ((s.extract 0 4).toList == [68, 70, 65, 49]) = decide ((bytesOf s).take 4 = headB) := by
  have h := ext_same (s := s) (r := headB) head_bytes 4
  rw [head_list] at h
  rw [Bool.eq_iff_iff, beq_iff_eq, decide_eq_true_eq] at h ⊢
  exact ⟨fun e => (h.1 e.symm).symm, fun e => (h.2 e.symm).symm⟩
theorem part_sz (s : ByteArray) (k : Nat) : (s.extract k s.size).size = s.size - k := by simp
set_option linter.unusedSimpArgs false in
set_option maxHeartbeats 16000000 in
theorem rget_any (s : ByteArray) (l : List Nat) (hs : bytesOf s = l) (hl : l.length < 1000000) (w : World) :
    Calls Try.prog 19 #[.string s] w (RGetP l w) := by
  have mixed : Try.prog.follows .mixedOrders = true := by kernel_rfl
  have hsz : l.length = s.size := by rw [← hs, bytesOf_len]
  have HLB : Hid (∀ x ∈ l, x < 256) := Lib.hid (by rw [← hs]; exact bytesOf_lt s)
  have HGI := Lib.hid (rfGet_is HLB.out)
  have HSZ := Lib.hid hsz
  obtain ⟨i0, hi0, hz0, hz1, hz2⟩ := info_parts infoSta
  have HI := Lib.hid (And.intro hi0 (And.intro hz0 (And.intro hz1 hz2)))
  obtain ⟨i1, hi1, hy0, hy1, hy2⟩ := info_parts infoArc
  have HI1 := Lib.hid (And.intro hi1 (And.intro hy0 (And.intro hy1 hy2)))
  clear hi0 hz0 hz1 hz2 hi1 hy0 hy1 hy2
  obtain ⟨N, hN⟩ : ∃ N, w.heap.size = N := ⟨_, rfl⟩
  have HN := Lib.hid hN
  by_cases h5 : s.size < 5
  · have d1 : decide ((s.size : Int) < 5) = true := decide_eq_true (by omega)
    have HG : Hid (getB l = none) := Lib.hid (by rw [← HGI.out]; exact rfGet_short (by omega))
    clear hs hl hsz h5
    go_enter Try.func19, Try.ntmps19
    go_wp2_with fail
    go_ret2
    exact ⟨_, by rw [HG.out]; rfl, by rw [HG.out]; exact Lib.hid (MachAt.nil _), Lib.hid (Below.refl _ _)⟩
  · have d1 : decide ((s.size : Int) < 5) = false := decide_eq_false (by omega)
    have d2 : decide (s.size < 5) = false := decide_eq_false h5
    have h4 : (4 : Int) ≤ s.size := by omega
    have hhd := head_test s
    rw [hs] at hhd
    by_cases hh : l.take 4 = headB
    · have d3 : (!(s.extract 0 4).toList == [68, 70, 65, 49]) = false := by rw [hhd, decide_eq_true hh]; rfl
      have HON := Lib.hid (rfGet_on (by omega) hh)
      obtain ⟨t0, ht0⟩ : ∃ t0, s.extract 4 s.size = t0 := ⟨_, rfl⟩
      have ht0s : t0.size < 1000000 := by rw [← ht0, part_sz]; omega
      have HT0 : Hid (bytesOf t0 = l.drop 4) := Lib.hid (by rw [← ht0, cut_bytes, hs])
      have HRM := Lib.hid (show rfM (l.drop 4) = (rfS (min (valB (l.drop 4)).1 4097) (rfCut (l.drop 4))).1 from rfl)
      have HRO := Lib.hid (rfM_ok (s := l.drop 4) fun x hx => HLB.out x (List.mem_of_mem_drop hx))
      have HR0B : Hid (∀ x ∈ l.drop 4, x < 256) := Lib.hid fun x hx => HLB.out x (List.mem_of_mem_drop hx)
      obtain ⟨r0, hr0⟩ : ∃ r0, l.drop 4 = r0 := ⟨_, rfl⟩
      rw [hr0] at HT0 HRM HRO HR0B HON
      have HV0 := Lib.hid (rvalue_any t0 r0 HT0.out (by rw [← HT0.out, bytesOf_len]; exact ht0s) w)
      have hle0 : (valB r0).2 ≤ t0.size := by have := valB_len HR0B.out; rw [← HT0.out, bytesOf_len] at this; rw [HT0.out] at this; exact this
      have HC1 : Hid (bytesOf (t0.extract (valB r0).2 t0.size) = rfCut r0) := Lib.hid (by rw [cut_bytes, HT0.out]; rfl)
      obtain ⟨many, hmany⟩ : ∃ many, (valB r0).1 = many := ⟨_, rfl⟩
      have HM64 : Hid (many < 18446744073709551616) := Lib.hid (by rw [← hmany]; exact valB_lt _)
      obtain ⟨n0, hn0⟩ : ∃ n0, (valB r0).2 = n0 := ⟨_, rfl⟩
      rw [hmany] at HRM
      rw [hmany, hn0] at HV0
      rw [hn0] at hle0 HC1
      have HSL : Hid (strOf l = s) := Lib.hid (by rw [← hs]; exact strOf_of s)
      clear hhd hh hs hl hsz h5 hr0 hmany hn0
      go_enter Try.func19, Try.ntmps19
      go_wp2_with (go_at_call 12; (with_reducible refine HV0.out.mono ?_); rintro e w2 ⟨rfl, hb2⟩; have hle1 : (n0 : Int) ≤ t0.size := (by omega))
      have HB2 : Hid (Below N w w2) := Lib.hid (by rw [← HN.out]; exact hb2.out)
      have ht1s : (t0.extract n0 t0.size).size < 1000000 := by rw [part_sz]; omega
      obtain ⟨t1, ht1⟩ : ∃ t1, t0.extract n0 t0.size = t1 := ⟨_, rfl⟩
      obtain ⟨r1, hr1⟩ : ∃ r1, rfCut r0 = r1 := ⟨_, rfl⟩
      have HR1B : Hid (∀ x ∈ r1, x < 256) := Lib.hid (by rw [← hr1]; exact rfCut_bytes HR0B.out)
      rw [ht1] at HC1 ht1s ⊢
      rw [hr1] at HC1 HRM
      obtain ⟨c, hc⟩ : ∃ c, min many 4097 = c := ⟨_, rfl⟩
      have HCC := Lib.hid hc
      rw [hc] at HRM
      have hc1 : c ≤ many := by omega
      have hc2 : c ≤ 4097 := by omega
      clear hb2 hle0 hle1 ht0 ht0s ht1 hr1 hc HV0 HT0 HR0B
      go_loopw [4, 7, 8] (fun t u z wr => ∃ (k : Nat) (tk : ByteArray) (r : List Nat) (vs : List (Nat × Value)) (xs : List Sta), t = .string tk ∧ tk.size < 1000000 ∧ Hid (bytesOf tk = r) ∧ z = .int .u64 k ∧ k ≤ c ∧ Hid (ReadsS c r1 k xs r) ∧ Hid (RowsM wr N u vs xs) ∧ Hid (Below N w wr)) (fun _ _ z _ => 4097 - (intOf z).toNat)
      case atStart => exact ⟨0, t1, r1, [], [], rfl, ht1s, HC1, rfl, Nat.zero_le _, Lib.hid (ReadsS.start _ _), Lib.hid (RowsM.nil _ _), HB2⟩
      case round =>
        clear HB2
        obtain ⟨k, tk, r, vs, xs, rfl, htk, HTK, rfl, hk, HRD, HRW, HBW⟩ := hrel
        obtain ⟨wo, rfl⟩ : ∃ wo, wo = wr := ⟨_, rfl⟩
        have HKX := Lib.hid HRD.out.1
        have HO0 : Hid (wo.ownsRow N 54 2 u7 k (flatM vs)) := Lib.hid (by have := HRW.out.own; rwa [HKX.out] at this)
        obtain ⟨a3, cp3, rfl⟩ := row_form HO0.out
        have HRB : Hid (∀ x ∈ r, x < 256) := Lib.hid (by rw [← HTK.out]; exact bytesOf_lt tk)
        by_cases hlt : k < c
        · have hd : decide ((k : Int) < many) = true := decide_eq_true (by omega)
          have hd2 : decide ((k : Int) ≤ 4096) = true := decide_eq_true (by omega)
          have hd3 : k ≤ 4096 := by omega
          have hd4 : k < many := by omega
          obtain ⟨X, hX⟩ : ∃ X, wo.heap.size = X := ⟨_, rfl⟩
          have HX := Lib.hid hX
          obtain ⟨wa, hwa⟩ : ∃ wa, wo.alloc (.cells #[.int .u64 0, .slice none 0 0] 54) = wa := ⟨_, rfl⟩
          have HXA : Hid (wa.heap[X]? = some (.cells #[.int .u64 0, .slice none 0 0] 54 (0, 0))) := Lib.hid (by rw [← hwa, ← hX]; exact heap_alloc_new wo _)
          have HBA : Hid (Below X wo wa) := Lib.hid (by rw [← hwa, ← hX]; exact new_one wo _)
          have HSA : Hid (wa.heap.size = X + 1) := Lib.hid (by rw [← hwa]; simp [hX])
          have HVA := Lib.hid (rvalue_any tk r HTK.out (by rw [← HTK.out, bytesOf_len]; exact htk) wa)
          have hle2 : (valB r).2 ≤ tk.size := by have := valB_len HRB.out; rw [← HTK.out, bytesOf_len] at this; rw [HTK.out] at this; exact this
          have HC2 : Hid (bytesOf (tk.extract (valB r).2 tk.size) = rfCut r) := Lib.hid (by rw [cut_bytes, HTK.out]; rfl)
          have htk2 : (tk.extract (valB r).2 tk.size).size < 1000000 := by rw [part_sz]; omega
          have HSTE := Lib.hid (show rfSt r = (⟨(valB r).1, (rfA (min (valB (rfCut r)).1 256) (rfCut (rfCut r))).1⟩, (rfA (min (valB (rfCut r)).1 256) (rfCut (rfCut r))).2) from rfl)
          have HNX := Lib.hid (HRD.out.next hlt)
          obtain ⟨acc, hacc⟩ : ∃ acc, (valB r).1 = acc := ⟨_, rfl⟩
          obtain ⟨n2, hn2⟩ : ∃ n2, (valB r).2 = n2 := ⟨_, rfl⟩
          obtain ⟨r2, hr2⟩ : ∃ r2, rfCut r = r2 := ⟨_, rfl⟩
          have HR2B : Hid (∀ x ∈ r2, x < 256) := Lib.hid (by rw [← hr2]; exact rfCut_bytes HRB.out)
          rw [hacc, hr2] at HSTE
          rw [hacc, hn2] at HVA
          rw [hn2] at hle2 HC2 htk2
          rw [hr2] at HC2
          obtain ⟨t2, ht2⟩ : ∃ t2, tk.extract n2 tk.size = t2 := ⟨_, rfl⟩
          rw [ht2] at HC2 htk2
          have HVB := Lib.hid (fun W => rvalue_any t2 r2 HC2.out (by rw [← HC2.out, bytesOf_len]; exact htk2) W)
          have hle3 : (valB r2).2 ≤ t2.size := by have := valB_len HR2B.out; rw [← HC2.out, bytesOf_len] at this; rw [HC2.out] at this; exact this
          have HC3 : Hid (bytesOf (t2.extract (valB r2).2 t2.size) = rfCut r2) := Lib.hid (by rw [cut_bytes, HC2.out]; rfl)
          have htk3 : (t2.extract (valB r2).2 t2.size).size < 1000000 := by rw [part_sz]; omega
          obtain ⟨cnt, hcnt⟩ : ∃ cnt, (valB r2).1 = cnt := ⟨_, rfl⟩
          have HCNT : Hid (cnt < 18446744073709551616) := Lib.hid (by rw [← hcnt]; exact valB_lt _)
          obtain ⟨n3, hn3⟩ : ∃ n3, (valB r2).2 = n3 := ⟨_, rfl⟩
          obtain ⟨r3, hr3⟩ : ∃ r3, rfCut r2 = r3 := ⟨_, rfl⟩
          have HR3B : Hid (∀ x ∈ r3, x < 256) := Lib.hid (by rw [← hr3]; exact rfCut_bytes HR2B.out)
          rw [hcnt, hr3] at HSTE
          rw [hcnt, hn3] at HVB
          rw [hn3] at hle3 HC3 htk3
          rw [hr3] at HC3
          obtain ⟨t3, ht3⟩ : ∃ t3, t2.extract n3 t2.size = t3 := ⟨_, rfl⟩
          rw [ht3] at HC3 htk3
          have hli2 : (n2 : Int) ≤ tk.size := by omega
          have hli3 : (n3 : Int) ≤ t2.size := by omega
          clear hacc hn2 hr2 hcnt hn3 hr3 HRD HTK HRB
          go_upto_region 13 with (go_at_call 12; (with_reducible refine HVA.out.mono ?_); rintro e w4 ⟨rfl, hb4⟩)
          have hx4 := (hb4.out.block X (by rw [HSA.out]; omega)).trans HXA.out
          have HX4 := Lib.hid hx4
          have HB4 : Hid (Below X wo w4) := Lib.hid (HBA.out.trans (hb4.out.mono (by rw [HSA.out]; omega)))
          have k0 := (cell_of_row w4 X 0 _ _ _ hx4).trans rfl
          have f0 := free_cells (j := 0) hx4
          have k1 := (cell_of_row w4 X 1 _ _ _ hx4).trans rfl
          obtain ⟨w5, hw5⟩ : ∃ w5, w4.setCell ⟨X, 0, none⟩ (.int .u64 acc) = w5 := ⟨_, rfl⟩
          have HX5 : Hid (w5.heap[X]? = some (.cells #[.int .u64 acc, .slice none 0 0] 54 (0, 0))) := Lib.hid (by rw [← hw5]; exact rb_set0 HX4.out _)
          have HB5 : Hid (Below X wo w5) := Lib.hid (by rw [← hw5]; exact HB4.out.setCell (Nat.le_refl X) _)
          clear hx4 hb4 HVA hwa
          go_upto_region 16 with (go_at_call 12; (with_reducible refine (HVB.out _).mono ?_); rintro e w6 ⟨rfl, hb6⟩)
          have hX5 : X < w5.heap.size := lt_of_block HX5.out
          have HX6 := Lib.hid ((hb6.out.block X hX5).trans HX5.out)
          have HB6 : Hid (Below X wo w6) := Lib.hid (HB5.out.trans (hb6.out.mono (Nat.le_of_lt hX5)))
          have HXW : Hid (X < w6.heap.size) := Lib.hid (Nat.lt_of_lt_of_le hX5 hb6.out.size)
          clear k0 f0 k1 hb6 HVB hX5 hw5
          go_wp2_with fail
          obtain ⟨c2, hc2⟩ : ∃ c2, min cnt 256 = c2 := ⟨_, rfl⟩
          rw [hc2] at HSTE
          have hcc1 : c2 ≤ cnt := by omega
          have hcc2 : c2 ≤ 256 := by omega
          have HCC2 := Lib.hid hc2
          clear hc2
          go_loopw [4, 13] (fun t z wq => ∃ (j : Nat) (tj : ByteArray) (rj : List Nat) (ys : List Arc3) (av : Value), t = .string tj ∧ tj.size < 1000000 ∧ Hid (bytesOf tj = rj) ∧ z = .int .u64 j ∧ j ≤ c2 ∧ Hid (ReadsA c2 r3 j ys rj) ∧ Hid (wq.heap[X]? = some (.cells #[.int .u64 acc, av] 54 (0, 0))) ∧ Hid (wq.ownsRow (X + 1) 69 3 av j (flatA ys)) ∧ Hid (Below X wo wq)) (fun _ z _ => 256 - (intOf z).toNat)
          case atStart => exact ⟨0, t3, r3, [], .slice none 0 0, rfl, htk3, HC3, rfl, Nat.zero_le _, Lib.hid (ReadsA.start _ _), HX6, Lib.hid (World.ownsRow_nil _ _ _ _), HB6⟩
          case round =>
            clear HX6 HB6
            obtain ⟨j, tj, rj, ys, av, rfl, htj, HTJ, rfl, hj, HRJ, HXQ, HOW, HBQ⟩ := hrel
            have HLJ := Lib.hid (show rj.length = tj.size from by rw [← HTJ.out, bytesOf_len])
            have HJY := Lib.hid HRJ.out.1
            obtain ⟨aj, cj, rfl⟩ := row_form HOW.out
            by_cases hjl : j < c2
            · have e1 : decide ((j : Int) < cnt) = true := decide_eq_true (by omega)
              have e2 : decide ((j : Int) < 256) = true := decide_eq_true (by omega)
              have e3 : j < 256 := by omega
              have e4 : j < cnt := by omega
              by_cases h3 : 2 < tj.size
              · have e5 : decide ((tj.size : Int) > 2) = true := decide_eq_true (by omega)
                have e6 : decide ((2 : Int) < tj.size) = true := decide_eq_true (by omega)
                have HT2 : Hid (bytesOf (tj.extract 2 tj.size) = rj.drop 2) := Lib.hid (by rw [cut_bytes, HTJ.out])
                have htj2 : (tj.extract 2 tj.size).size < 1000000 := by rw [part_sz]; omega
                have HVC := Lib.hid (rvalue_any (tj.extract 2 tj.size) (rj.drop 2) HT2.out (by rw [← HT2.out, bytesOf_len]; exact htj2) wr)
                have HRJB : Hid (∀ x ∈ rj, x < 256) := Lib.hid (by rw [← HTJ.out]; exact bytesOf_lt tj)
                have HNXA := Lib.hid (HRJ.out.next hjl (by rw [HLJ.out]; exact h3))
                have hnv : (valB (rj.drop 2)).2 + 2 ≤ tj.size := by
                  have h := valB_len (l := rj.drop 2) (fun x hx => HRJB.out x (List.mem_of_mem_drop hx))
                  rw [List.length_drop, HLJ.out] at h
                  omega
                have HRST : Hid (restA rj = rj.drop (2 + (valB (rj.drop 2)).2)) := Lib.hid rfl
                have HNA : Hid (nextA rj = ⟨tj[0].toNat, tj[1].toNat, (min (valB (rj.drop 2)).1 4096 : Nat)⟩) := Lib.hid (by
                  have h0 : 0 < (bytesOf tj).length := by rw [bytesOf_len]; omega
                  have h1 : 1 < (bytesOf tj).length := by rw [bytesOf_len]; omega
                  have hb := HTJ.out
                  unfold nextA
                  rw [← hb, List.getElem?_eq_getElem h0, List.getElem?_eq_getElem h1, bytesOf_get tj 0 (by omega) h0, bytesOf_get tj 1 (by omega) h1]
                  rfl)
                obtain ⟨tov, htov⟩ : ∃ tov, (valB (rj.drop 2)).1 = tov := ⟨_, rfl⟩
                obtain ⟨nv, hnve⟩ : ∃ nv, (valB (rj.drop 2)).2 = nv := ⟨_, rfl⟩
                rw [htov, hnve] at HVC
                rw [hnve] at hnv HRST
                rw [htov] at HNA
                obtain ⟨dv, hdv⟩ : ∃ dv, min tov 4096 = dv := ⟨_, rfl⟩
                rw [hdv] at HNA
                have hdv2 : dv ≤ 4096 := by omega
                have HMN : Hid (min (tov : Int) 4096 = (dv : Int)) := Lib.hid (by omega)
                have HDW : Hid (IntKind.i64.wrap (dv : Int) = (dv : Int)) := Lib.hid (by rw [IntKind.wrap_i64]; omega)
                have htwo : (2 : Int) ≤ tj.size := by omega
                obtain ⟨tq, htq⟩ : ∃ tq, tj.extract 2 tj.size = tq := ⟨_, rfl⟩
                rw [htq] at HVC
                clear htov hnve hdv HT2 htj2
                go_upto_region 20 with fail
                go_upto_region 21 with (go_at_call 12; (with_reducible refine HVC.out.mono ?_); rintro e w7 ⟨rfl, hb7⟩)
                have hXq : X < wr.heap.size := lt_of_block HXQ.out
                have hx7 := (hb7.out.block X hXq).trans HXQ.out
                have HX7 := Lib.hid hx7
                have HO7 := Lib.hid (own_below HOW.out hb7.out)
                have HB7 : Hid (Below X wo w7) := Lib.hid (HBQ.out.trans (hb7.out.mono (Nat.le_of_lt hXq)))
                have HX7L : Hid (X < w7.heap.size) := Lib.hid (lt_of_block HX7.out)
                have k1 : w7.cell? ⟨X, 1, none⟩ = some (.slice aj j cj) := (cell_of_row w7 X 1 _ _ _ hx7).trans rfl
                obtain ⟨x0, hx0⟩ : ∃ x0, tj[0].toNat = x0 := ⟨_, rfl⟩
                obtain ⟨x1, hx1⟩ : ∃ x1, tj[1].toNat = x1 := ⟨_, rfl⟩
                rw [hx0, hx1] at HNA
                have h0s : 0 < tj.size := by omega
                have h1s : 1 < tj.size := by omega
                have h1i : (1 : Int) < tj.size := by omega
                clear hx7 hb7 hXq htq
                refine region_goes 13 14 rfl (fun W => W.cell? ⟨X, 1, none⟩ = some (.slice aj j cj)) mixed k1 (fun hHeld => ?_)
                refine goes_take (i := 0) (v := ?gwx1) rfl (by kernel_rfl) (by kernel_rfl) (by kernel_rfl) (by kernel_rfl) (fun _ _ _ h => h) (Or.inl ⟨by rfl, ?gxx1⟩) (by assumption) ?gqx1
                case gxx1 => (intro W9 hW9; first | (go_simp; done) | (go_simp; with_reducible rfl))
                simp only [Act.put, List.getElem_toArray, List.getElem_cons_succ, List.getElem_cons_zero, List.setIfInBounds_toArray, List.set_cons_zero, List.set_cons_succ]
                refine goes_take (i := 1) (v := .slice aj j cj) rfl (by kernel_rfl) (by kernel_rfl) (by kernel_rfl) (by kernel_rfl) (fun _ _ _ h => h) (Or.inl ⟨by rfl, ?gxx2⟩) (by assumption) ?gqx2
                case gxx2 => (intro W9 hW9; first | (go_simp; done) | (go_simp; with_reducible rfl))
                simp only [Act.put, List.getElem_toArray, List.getElem_cons_succ, List.getElem_cons_zero, List.setIfInBounds_toArray, List.set_cons_zero, List.set_cons_succ]
                refine goes_take (i := 2) (v := ?gwx3) rfl (by kernel_rfl) (by kernel_rfl) (by kernel_rfl) (by kernel_rfl) (fun _ _ _ h => h) (Or.inl ⟨by rfl, ?gxx3⟩) (by assumption) ?gqx3
                case gxx3 => (intro W9 hW9; first | (go_simp; done) | (go_simp; with_reducible rfl))
                simp only [Act.put, List.getElem_toArray, List.getElem_cons_succ, List.getElem_cons_zero, List.setIfInBounds_toArray, List.set_cons_zero, List.set_cons_succ]
                refine goes_take (i := 3) (v := .int .u8 x0) rfl (by kernel_rfl) (by kernel_rfl) (by kernel_rfl) (by kernel_rfl) (fun _ _ _ h => h) (Or.inl ⟨by rfl, ?gxx4⟩) (by assumption) ?gqx4
                case gxx4 => (intro W9 hW9; first | (go_simp; done) | (go_simp; with_reducible rfl))
                simp only [Act.put, List.getElem_toArray, List.getElem_cons_succ, List.getElem_cons_zero, List.setIfInBounds_toArray, List.set_cons_zero, List.set_cons_succ]
                refine goes_take (i := 4) (v := ?gwx5) rfl (by kernel_rfl) (by kernel_rfl) (by kernel_rfl) (by kernel_rfl) (fun _ _ _ h => h) (Or.inl ⟨by rfl, ?gxx5⟩) (by assumption) ?gqx5
                case gxx5 => (intro W9 hW9; first | (go_simp; done) | (go_simp; with_reducible rfl))
                simp only [Act.put, List.getElem_toArray, List.getElem_cons_succ, List.getElem_cons_zero, List.setIfInBounds_toArray, List.set_cons_zero, List.set_cons_succ]
                refine goes_take (i := 5) (v := .int .u8 x1) rfl (by kernel_rfl) (by kernel_rfl) (by kernel_rfl) (by kernel_rfl) (fun _ _ _ h => h) (Or.inl ⟨by rfl, ?gxx6⟩) (by assumption) ?gqx6
                case gxx6 => (intro W9 hW9; first | (go_simp; done) | (go_simp; with_reducible rfl))
                simp only [Act.put, List.getElem_toArray, List.getElem_cons_succ, List.getElem_cons_zero, List.setIfInBounds_toArray, List.set_cons_zero, List.set_cons_succ]
                refine goes_take (i := 6) (v := ?gwx7) rfl (by kernel_rfl) (by kernel_rfl) (by kernel_rfl) (by kernel_rfl) (fun _ _ _ h => h) (Or.inl ⟨by rfl, ?gxx7⟩) (by assumption) ?gqx7
                case gxx7 => (intro W9 hW9; first | (go_simp; done) | (go_simp; with_reducible rfl))
                simp only [Act.put, List.getElem_toArray, List.getElem_cons_succ, List.getElem_cons_zero, List.setIfInBounds_toArray, List.set_cons_zero, List.set_cons_succ]
                refine goes_take (i := 7) (v := .int .u64 dv) rfl (by kernel_rfl) (by kernel_rfl) (by kernel_rfl) (by kernel_rfl) (fun _ _ _ h => h) (Or.inl ⟨by rfl, ?gxx8⟩) (by assumption) ?gqx8
                case gxx8 => (intro W9 hW9; have e9 := HMN.out; first | (go_simp; done) | (go_simp; with_reducible rfl))
                simp only [Act.put, List.getElem_toArray, List.getElem_cons_succ, List.getElem_cons_zero, List.setIfInBounds_toArray, List.set_cons_zero, List.set_cons_succ]
                refine goes_take (i := 8) (v := .int .i64 dv) rfl (by kernel_rfl) (by kernel_rfl) (by kernel_rfl) (by kernel_rfl) (fun _ _ _ h => h) (Or.inl ⟨by rfl, ?gxx9⟩) (by assumption) ?gqx9
                case gxx9 => (intro W9 hW9; have e9 := HDW.out; first | (go_simp; done) | (go_simp; with_reducible rfl))
                simp only [Act.put, List.getElem_toArray, List.getElem_cons_succ, List.getElem_cons_zero, List.setIfInBounds_toArray, List.set_cons_zero, List.set_cons_succ]
                refine goes_take (i := 9) (v := .agg #[.int .u8 x0, .int .u8 x1, .int .i64 dv]) rfl (by kernel_rfl) (by kernel_rfl) (by kernel_rfl) (by kernel_rfl) (fun _ _ _ h => h) (Or.inl ⟨by rfl, ?gxx10⟩) (by assumption) ?gqx10
                case gxx10 => (intro W9 hW9; first | (go_simp; done) | (go_simp; with_reducible rfl))
                simp only [Act.put, List.getElem_toArray, List.getElem_cons_succ, List.getElem_cons_zero, List.setIfInBounds_toArray, List.set_cons_zero, List.set_cons_succ]
                refine goes_one (i := 10) (by kernel_rfl) rfl (fun K9 hK9 => ?_)
                go_simp
                have hb9 := (new_one w7 (.cells #[.int .u8 x0, .int .u8 x1, .int .i64 dv] 69)).drew
                have hN9 : ((w7.alloc (.cells #[.int .u8 x0, .int .u8 x1, .int .i64 dv] 69)).drew).heap[w7.heap.size]? = _ := heap_alloc_new w7 (.cells #[.int .u8 x0, .int .u8 x1, .int .i64 dv] 69)
                have hs9 : ((w7.alloc (.cells #[.int .u8 x0, .int .u8 x1, .int .i64 dv] 69)).drew).heap.size = w7.heap.size + 1 := World.size_alloc _ _
                obtain ⟨w9, hw9⟩ : ∃ w9, (w7.alloc (.cells #[.int .u8 x0, .int .u8 x1, .int .i64 dv] 69)).drew = w9 := ⟨_, rfl⟩
                rw [hw9] at hb9 hN9 hs9
                try rw [hw9]
                have hk9 := cell_below hb9 k1
                have HO9 := Lib.hid (own_below HO7.out hb9)
                have HX9 := Lib.hid ((hb9.block X HX7L.out).trans HX7.out)
                have HB9 : Hid (Below X wo w9) := Lib.hid (HB7.out.trans (hb9.mono (Nat.le_of_lt HX7L.out)))
                refine hK9.out _ _ (fun _ => hk9) (fun _ => ?_)
                clear hK9 K9 hHeld hw9
                have hHeld := hk9
                refine goes_one (i := 11) (by kernel_rfl) rfl (fun K9 hK9 => ?_)
                refine step_append_lies _ rfl (.tmp 84) (.tmp 93) 52 rfl (X + 1) 69 i1 (.agg #[.int .u8 0, .int .u8 0, .int .i64 0]) 3 16 Try.underlying52 HI1.out.1 HI1.out.2.1 HI1.out.2.2.1 HI1.out.2.2.2 rfl (by decide) (.slice aj j cj) j (flatA ys) rfl HO9.out ⟨w7.heap.size, 0, none⟩ 1 1 [.int .u8 x0, .int .u8 x1, .int .i64 dv] rfl rfl (news_in (cs := #[.int .u8 x0, .int .u8 x1, .int .i64 dv]) hN9) (by simp [Value.oneCell']) (by omega) (by unfold maxLen; omega) (by omega) (by have := HX7L.out; omega) (w7.heap.size + 1) hs9 ?_
                intro g9 cap9 w8 h2 h3 h4 h5
                have hX8 : w8.heap[X]? = some (.cells #[.int .u64 acc, .slice aj j cj] 54 (0, 0)) := (h3.block X (by have := HX7L.out; omega) (fun e => by have := (HO9.out.lt X e.symm).1; omega)).trans HX9.out
                have HX8 := Lib.hid hX8
                have hk8 : w8.cell? ⟨X, 1, none⟩ = some (.slice aj j cj) := (cell_of_row w8 X 1 _ _ _ hX8).trans rfl
                have hf8 : w8.frozen? ⟨X, 1, none⟩ = false := free_cells hX8
                have HB8 : Hid (Below X wo w8) := Lib.hid (HB9.out.grown h3 (by have := HX7L.out; omega) (fun q hq => by have := (HO9.out.lt q hq).1; omega))
                have HO8 : Hid (w8.ownsRow (X + 1) 69 3 (.slice (some ⟨g9, 0, none⟩) (j + 1) cap9) (j + 1) (flatA ys ++ [.int .u8 x0, .int .u8 x1, .int .i64 dv])) := Lib.hid h2
                refine hK9.out _ _ (fun _ => hk8) (fun _ => ?_)
                clear hK9 K9 hHeld h2 h3 h4 h5 hb9 hN9 hs9 hX8
                have hHeld := hk8
                simp only [Act.put, List.getElem_toArray, List.getElem_cons_succ, List.getElem_cons_zero, List.setIfInBounds_toArray, List.set_cons_zero, List.set_cons_succ]
                refine goes_take (i := 12) (v := ?gwx11) rfl (by kernel_rfl) (by kernel_rfl) (by kernel_rfl) (by kernel_rfl) (fun _ _ _ h => h) (Or.inl ⟨by rfl, ?gxx11⟩) (by assumption) ?gqx11
                case gxx11 => (intro W9 hW9; first | (go_simp; done) | (go_simp; with_reducible rfl))
                simp only [Act.put, List.getElem_toArray, List.getElem_cons_succ, List.getElem_cons_zero, List.setIfInBounds_toArray, List.set_cons_zero, List.set_cons_succ]
                refine goes_one (i := 13) (by kernel_rfl) rfl (fun K9 hK9 => ?_)
                go_simp
                refine hK9.out _ _ (fun h => absurd rfl h) (fun _ => ?_)
                clear hK9 K9 hHeld
                refine goes_done (by kernel_rfl) ?_ _
                obtain ⟨wz, hwz⟩ : ∃ wz, w8.setCell ⟨X, 1, none⟩ (.slice (some ⟨g9, 0, none⟩) (j + 1) cap9) = wz := ⟨_, rfl⟩
                have HXZ : Hid (wz.heap[X]? = some (.cells #[.int .u64 acc, .slice (some ⟨g9, 0, none⟩) (j + 1) cap9] 54 (0, 0))) := Lib.hid (by rw [← hwz]; exact rb_set1 HX8.out _)
                have HBZ : Hid (Below X wo wz) := Lib.hid (by rw [← hwz]; exact HB8.out.setCell (Nat.le_refl X) _)
                have HOZ : Hid (wz.ownsRow (X + 1) 69 3 (.slice (some ⟨g9, 0, none⟩) (j + 1) cap9) (j + 1) (flatA ys ++ [.int .u8 x0, .int .u8 x1, .int .i64 dv])) := Lib.hid (by rw [← hwz]; exact row_setCell HO8.out (show X < X + 1 by omega) _)
                rw [hwz]
                have hsum : IntKind.i64.wrap ((2 : Int) + nv) = (2 : Int) + nv := by rw [IntKind.wrap_i64]; omega
                have hsl : (2 : Int) + nv ≤ tj.size := by omega
                have hsn : ((2 : Int) + nv).toNat = 2 + nv := by omega
                have hsz0 : (0 : Int) ≤ 2 + nv := by omega
                clear hwz k1 hk9 hk8 hf8 h0s h1s h1i hx0 hx1
                go_wp2_with fail
                exact ⟨⟨j + 1, tj.extract (2 + nv) tj.size, restA rj, ys ++ [nextA rj], _, rfl, by rw [part_sz]; omega, Lib.hid (by rw [cut_bytes, HTJ.out, HRST.out]), rfl, hjl, HNXA, HXZ, by rw [HNA.out, flatA_snoc]; exact HOZ, HBZ⟩, by simp only [intOf]; omega⟩
              · have e5 : decide ((tj.size : Int) > 2) = false := decide_eq_false (by omega)
                have e6 : decide ((2 : Int) < tj.size) = false := decide_eq_false (by omega)
                have e7 : decide (2 < tj.size) = false := decide_eq_false h3
                have HSTP := Lib.hid (HRJ.out.stop (.inr (by rw [HLJ.out]; exact h3)))
                go_upto_region 23 with fail
                have HRQ := Lib.hid (HRW.out.below (show Below wo.heap.size wo wr from by rw [HX.out]; exact HBQ.out))
                have HOQ := Lib.hid (own_below HO0.out (show Below wo.heap.size wo wr from by rw [HX.out]; exact HBQ.out))
                have HNX2 : Hid (N ≤ X) := Lib.hid (by rw [← HX.out, ← HN.out]; exact HBW.out.size)
                have HAQ : Hid (wr.ownsRow N 69 3 (.slice aj j cj) j (flatA ys)) := Lib.hid (own_weak HOW.out (Nat.le_succ_of_le HNX2.out))
                have HRA := Lib.hid (HOQ.out.alloc (.cells #[.int .u64 acc, .slice aj j cj] 54))
                have hXq : X < wr.heap.size := lt_of_block HXQ.out
                have HXQL := Lib.hid hXq
                have hNq : N ≤ wr.heap.size := by have := HNX2.out; omega
                have k0 := (cell_of_row wr X 0 _ _ _ HXQ.out).trans rfl
                have k1 := (cell_of_row wr X 1 _ _ _ HXQ.out).trans rfl
                go_wp2_with (at_builtin; refine wpList_append_lies _ rfl _ _ 23 rfl N 54 i0 (.agg #[.int .u64 0, .slice none 0 0]) 2 32 Try.underlying23 HI.out.1 HI.out.2.1 HI.out.2.2.1 HI.out.2.2.2 rfl (by decide) (.slice a3 k cp3) k (flatM vs) rfl HRA.out ⟨wr.heap.size, 0, none⟩ 1 1 [.int .u64 acc, .slice aj j cj] rfl rfl (news_in (cs := #[.int .u64 acc, .slice aj j cj]) (heap_alloc_new wr _)) (by simp [Value.oneCell']) (by omega) (by unfold maxLen; omega) (by omega) (by simp; omega) (wr.heap.size + 1) (by simp) ?_; intro g2 cap2 w8 h2 h3 h4 h5; have HP2 := Lib.hid h2; have HP3 := Lib.hid h3; clear h2 h3 h4 h5)
                have HPU : Hid (RowsM w8 N (.slice (some ⟨g2, 0, none⟩) (k + 1) cap2) (vs ++ [(acc, .slice aj j cj)]) (xs ++ [⟨acc, ys⟩])) := Lib.hid (HRQ.out.push (s := ⟨acc, ys⟩) (by have := HAQ.out; rw [← HJY.out] at this; rw [← HJY.out]; exact this) (new_one wr _) HP3.out (by rw [HKX.out]; exact HP2.out))
                have HBE : Hid (Below N w w8) := Lib.hid (((HBW.out.trans (HBQ.out.mono HNX2.out)).trans ((new_one wr _).mono (by have := HNX2.out; have := HXQL.out; omega))).grown HP3.out (by simp; have := HNX2.out; have := HXQL.out; omega) (fun q hq => (HOQ.out.lt q hq).1))
                exact ⟨⟨k + 1, tj, rj, _, xs ++ [⟨acc, ys⟩], rfl, htj, HTJ, rfl, hlt, by have h := HNX.out; rw [HSTE.out, HSTP.out] at h; exact Lib.hid h, HPU, HBE⟩, by simp only [intOf]; omega⟩
            · have hjc : j = c2 := by omega
              by_cases hjn : j < cnt
              · have e1 : decide ((j : Int) < cnt) = true := decide_eq_true (by omega)
                have e2 : decide ((j : Int) < 256) = false := decide_eq_false (by have := HCC2.out; omega)
                have e3 : decide (j < 256) = false := decide_eq_false (by have := HCC2.out; omega)
                have HSTP := Lib.hid (HRJ.out.stop (.inl hjc))
                clear hjc hjl
                go_upto_region 23 with fail
                have HRQ := Lib.hid (HRW.out.below (show Below wo.heap.size wo wr from by rw [HX.out]; exact HBQ.out))
                have HOQ := Lib.hid (own_below HO0.out (show Below wo.heap.size wo wr from by rw [HX.out]; exact HBQ.out))
                have HNX2 : Hid (N ≤ X) := Lib.hid (by rw [← HX.out, ← HN.out]; exact HBW.out.size)
                have HAQ : Hid (wr.ownsRow N 69 3 (.slice aj j cj) j (flatA ys)) := Lib.hid (own_weak HOW.out (Nat.le_succ_of_le HNX2.out))
                have HRA := Lib.hid (HOQ.out.alloc (.cells #[.int .u64 acc, .slice aj j cj] 54))
                have hXq : X < wr.heap.size := lt_of_block HXQ.out
                have HXQL := Lib.hid hXq
                have hNq : N ≤ wr.heap.size := by have := HNX2.out; omega
                have k0 := (cell_of_row wr X 0 _ _ _ HXQ.out).trans rfl
                have k1 := (cell_of_row wr X 1 _ _ _ HXQ.out).trans rfl
                go_wp2_with (at_builtin; refine wpList_append_lies _ rfl _ _ 23 rfl N 54 i0 (.agg #[.int .u64 0, .slice none 0 0]) 2 32 Try.underlying23 HI.out.1 HI.out.2.1 HI.out.2.2.1 HI.out.2.2.2 rfl (by decide) (.slice a3 k cp3) k (flatM vs) rfl HRA.out ⟨wr.heap.size, 0, none⟩ 1 1 [.int .u64 acc, .slice aj j cj] rfl rfl (news_in (cs := #[.int .u64 acc, .slice aj j cj]) (heap_alloc_new wr _)) (by simp [Value.oneCell']) (by omega) (by unfold maxLen; omega) (by omega) (by simp; omega) (wr.heap.size + 1) (by simp) ?_; intro g2 cap2 w8 h2 h3 h4 h5; have HP2 := Lib.hid h2; have HP3 := Lib.hid h3; clear h2 h3 h4 h5)
                have HPU : Hid (RowsM w8 N (.slice (some ⟨g2, 0, none⟩) (k + 1) cap2) (vs ++ [(acc, .slice aj j cj)]) (xs ++ [⟨acc, ys⟩])) := Lib.hid (HRQ.out.push (s := ⟨acc, ys⟩) (by have := HAQ.out; rw [← HJY.out] at this; rw [← HJY.out]; exact this) (new_one wr _) HP3.out (by rw [HKX.out]; exact HP2.out))
                have HBE : Hid (Below N w w8) := Lib.hid (((HBW.out.trans (HBQ.out.mono HNX2.out)).trans ((new_one wr _).mono (by have := HNX2.out; have := HXQL.out; omega))).grown HP3.out (by simp; have := HNX2.out; have := HXQL.out; omega) (fun q hq => (HOQ.out.lt q hq).1))
                exact ⟨⟨k + 1, tj, rj, _, xs ++ [⟨acc, ys⟩], rfl, htj, HTJ, rfl, hlt, by have h := HNX.out; rw [HSTE.out, HSTP.out] at h; exact Lib.hid h, HPU, HBE⟩, by simp only [intOf]; omega⟩
              · have e1 : decide ((j : Int) < cnt) = false := decide_eq_false (by omega)
                have e3 : decide (j < cnt) = false := decide_eq_false hjn
                have HSTP := Lib.hid (HRJ.out.stop (.inl hjc))
                clear hjc hjl
                go_upto_region 23 with fail
                have HRQ := Lib.hid (HRW.out.below (show Below wo.heap.size wo wr from by rw [HX.out]; exact HBQ.out))
                have HOQ := Lib.hid (own_below HO0.out (show Below wo.heap.size wo wr from by rw [HX.out]; exact HBQ.out))
                have HNX2 : Hid (N ≤ X) := Lib.hid (by rw [← HX.out, ← HN.out]; exact HBW.out.size)
                have HAQ : Hid (wr.ownsRow N 69 3 (.slice aj j cj) j (flatA ys)) := Lib.hid (own_weak HOW.out (Nat.le_succ_of_le HNX2.out))
                have HRA := Lib.hid (HOQ.out.alloc (.cells #[.int .u64 acc, .slice aj j cj] 54))
                have hXq : X < wr.heap.size := lt_of_block HXQ.out
                have HXQL := Lib.hid hXq
                have hNq : N ≤ wr.heap.size := by have := HNX2.out; omega
                have k0 := (cell_of_row wr X 0 _ _ _ HXQ.out).trans rfl
                have k1 := (cell_of_row wr X 1 _ _ _ HXQ.out).trans rfl
                go_wp2_with (at_builtin; refine wpList_append_lies _ rfl _ _ 23 rfl N 54 i0 (.agg #[.int .u64 0, .slice none 0 0]) 2 32 Try.underlying23 HI.out.1 HI.out.2.1 HI.out.2.2.1 HI.out.2.2.2 rfl (by decide) (.slice a3 k cp3) k (flatM vs) rfl HRA.out ⟨wr.heap.size, 0, none⟩ 1 1 [.int .u64 acc, .slice aj j cj] rfl rfl (news_in (cs := #[.int .u64 acc, .slice aj j cj]) (heap_alloc_new wr _)) (by simp [Value.oneCell']) (by omega) (by unfold maxLen; omega) (by omega) (by simp; omega) (wr.heap.size + 1) (by simp) ?_; intro g2 cap2 w8 h2 h3 h4 h5; have HP2 := Lib.hid h2; have HP3 := Lib.hid h3; clear h2 h3 h4 h5)
                have HPU : Hid (RowsM w8 N (.slice (some ⟨g2, 0, none⟩) (k + 1) cap2) (vs ++ [(acc, .slice aj j cj)]) (xs ++ [⟨acc, ys⟩])) := Lib.hid (HRQ.out.push (s := ⟨acc, ys⟩) (by have := HAQ.out; rw [← HJY.out] at this; rw [← HJY.out]; exact this) (new_one wr _) HP3.out (by rw [HKX.out]; exact HP2.out))
                have HBE : Hid (Below N w w8) := Lib.hid (((HBW.out.trans (HBQ.out.mono HNX2.out)).trans ((new_one wr _).mono (by have := HNX2.out; have := HXQL.out; omega))).grown HP3.out (by simp; have := HNX2.out; have := HXQL.out; omega) (fun q hq => (HOQ.out.lt q hq).1))
                exact ⟨⟨k + 1, tj, rj, _, xs ++ [⟨acc, ys⟩], rfl, htj, HTJ, rfl, hlt, by have h := HNX.out; rw [HSTE.out, HSTP.out] at h; exact Lib.hid h, HPU, HBE⟩, by simp only [intOf]; omega⟩
        · have hkc : k = c := by omega
          have HXS := Lib.hid (show rfM r0 = xs from by rw [HRM.out]; exact HRD.out.stop hkc)
          have HOK : Hid (∀ s ∈ xs, OkS s) := Lib.hid (by rw [← HXS.out]; exact HRO.out.1)
          have HMA := Lib.hid HRW.out.mach
          have HPT := Lib.hid (rput_any (.slice a3 k cp3) xs wo HMA.out (fun s hs => by have := (HOK.out s hs).2.1; omega) (okS_mays HOK.out))
          have HON2 := HON.out
          rw [HXS.out] at HON2
          have HON3 := Lib.hid HON2
          clear HON2
          cases hck : checkB xs
          · rw [hck] at HPT
            have HG : Hid (getB l = none) := Lib.hid (by rw [← HGI.out, HON3.out, if_neg]; rw [hck]; exact fun h => by cases h.1)
            have HPT : Hid (Calls Try.prog 10 #[.slice a3 k cp3] wo fun e w' => e = .returned (.tuple #[.string (strOf (putS xs)), .int .i64 110]) ∧ Hid (Below wo.heap.size wo w')) := HPT
            generalize strOf (putS xs) = st at *
            clear hck
            by_cases hkm : k < many
            · have d4 : decide ((k : Int) < many) = true := decide_eq_true (by omega)
              have d5 : decide ((k : Int) ≤ 4096) = false := decide_eq_false (by have := HCC.out; omega)
              have d6 : decide (k ≤ 4096) = false := decide_eq_false (by have := HCC.out; omega)
              clear hkc hlt
              go_wp2_with (go_at_call 10; (with_reducible refine HPT.out.mono ?_); rintro e w9 ⟨rfl, hb9⟩; have HB9 := hb9)
              go_ret2
              exact ⟨_, by rw [HG.out]; rfl, by rw [HG.out]; exact Lib.hid (MachAt.nil _), by rw [HN.out]; exact Lib.hid (HBW.out.trans (HB9.out.mono (by rw [← HN.out]; exact HBW.out.size)))⟩
            · have d4 : decide ((k : Int) < many) = false := decide_eq_false (by omega)
              have d5 : decide (k < many) = false := decide_eq_false hkm
              clear hkc hlt hkm
              go_wp2_with (go_at_call 10; (with_reducible refine HPT.out.mono ?_); rintro e w9 ⟨rfl, hb9⟩; have HB9 := hb9)
              go_ret2
              exact ⟨_, by rw [HG.out]; rfl, by rw [HG.out]; exact Lib.hid (MachAt.nil _), by rw [HN.out]; exact Lib.hid (HBW.out.trans (HB9.out.mono (by rw [← HN.out]; exact HBW.out.size)))⟩
          · rw [hck] at HPT
            have HPT : Hid (Calls Try.prog 10 #[.slice a3 k cp3] wo fun e w' => e = .returned (.tuple #[.string (strOf (putS xs)), .int .i64 0]) ∧ Hid (Below wo.heap.size wo w')) := HPT
            have HPS := Lib.hid (show putS xs = putB xs from by unfold putS; rw [hck]; rfl)
            rw [HPS.out] at HPT
            have hst : ((strOf (putB xs)).toList == s.toList) = decide (putB xs = l) := by
              have h := same_text (l := putB xs) (r := l) (putB_bytes HOK.out) HLB.out
              rw [← HSL.out]; exact h
            by_cases hpl : putB xs = l
            · have HG : Hid (getB l = some xs) := Lib.hid (by rw [← HGI.out, HON3.out, if_pos ⟨hck, hpl⟩])
              rw [decide_eq_true hpl] at hst
              generalize strOf (putB xs) = st at *
              clear hck hpl
              by_cases hkm : k < many
              · have d4 : decide ((k : Int) < many) = true := decide_eq_true (by omega)
                have d5 : decide ((k : Int) ≤ 4096) = false := decide_eq_false (by have := HCC.out; omega)
                have d6 : decide (k ≤ 4096) = false := decide_eq_false (by have := HCC.out; omega)
                clear hkc hlt
                go_wp2_with (go_at_call 10; (with_reducible refine HPT.out.mono ?_); rintro e w9 ⟨rfl, hb9⟩; have HB9 := hb9)
                go_ret2
                exact ⟨_, by rw [HG.out]; rfl, by rw [HG.out]; exact Lib.hid (HMA.out.below HB9.out), by rw [HN.out]; exact Lib.hid (HBW.out.trans (HB9.out.mono (by rw [← HN.out]; exact HBW.out.size)))⟩
              · have d4 : decide ((k : Int) < many) = false := decide_eq_false (by omega)
                have d5 : decide (k < many) = false := decide_eq_false hkm
                clear hkc hlt hkm
                go_wp2_with (go_at_call 10; (with_reducible refine HPT.out.mono ?_); rintro e w9 ⟨rfl, hb9⟩; have HB9 := hb9)
                go_ret2
                exact ⟨_, by rw [HG.out]; rfl, by rw [HG.out]; exact Lib.hid (HMA.out.below HB9.out), by rw [HN.out]; exact Lib.hid (HBW.out.trans (HB9.out.mono (by rw [← HN.out]; exact HBW.out.size)))⟩
            · have HG : Hid (getB l = none) := Lib.hid (by rw [← HGI.out, HON3.out, if_neg]; exact fun h => hpl h.2)
              rw [decide_eq_false hpl] at hst
              generalize strOf (putB xs) = st at *
              clear hck hpl
              by_cases hkm : k < many
              · have d4 : decide ((k : Int) < many) = true := decide_eq_true (by omega)
                have d5 : decide ((k : Int) ≤ 4096) = false := decide_eq_false (by have := HCC.out; omega)
                have d6 : decide (k ≤ 4096) = false := decide_eq_false (by have := HCC.out; omega)
                clear hkc hlt
                go_wp2_with (go_at_call 10; (with_reducible refine HPT.out.mono ?_); rintro e w9 ⟨rfl, hb9⟩; have HB9 := hb9)
                go_ret2
                exact ⟨_, by rw [HG.out]; rfl, by rw [HG.out]; exact Lib.hid (MachAt.nil _), by rw [HN.out]; exact Lib.hid (HBW.out.trans (HB9.out.mono (by rw [← HN.out]; exact HBW.out.size)))⟩
              · have d4 : decide ((k : Int) < many) = false := decide_eq_false (by omega)
                have d5 : decide (k < many) = false := decide_eq_false hkm
                clear hkc hlt hkm
                go_wp2_with (go_at_call 10; (with_reducible refine HPT.out.mono ?_); rintro e w9 ⟨rfl, hb9⟩; have HB9 := hb9)
                go_ret2
                exact ⟨_, by rw [HG.out]; rfl, by rw [HG.out]; exact Lib.hid (MachAt.nil _), by rw [HN.out]; exact Lib.hid (HBW.out.trans (HB9.out.mono (by rw [← HN.out]; exact HBW.out.size)))⟩
    · have d3 : (!(s.extract 0 4).toList == [68, 70, 65, 49]) = true := by rw [hhd, decide_eq_false hh]; rfl
      have HG : Hid (getB l = none) := Lib.hid (by rw [← HGI.out]; exact rfGet_head hh)
      clear hhd hh hs hl hsz
      go_enter Try.func19, Try.ntmps19
      go_wp2_with fail
      go_ret2
      exact ⟨_, by rw [HG.out]; rfl, by rw [HG.out]; exact Lib.hid (MachAt.nil _), Lib.hid (Below.refl _ _)⟩
end Go.Proofs.Ytmhjabodhgacnaa
