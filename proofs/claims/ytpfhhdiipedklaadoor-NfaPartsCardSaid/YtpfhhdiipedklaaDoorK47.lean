/- Texts that a proof rests on: The walk of the law NfaParts. -/
import Derived.Test.YtpfhhdiipedklaaDoorK46
set_option maxRecDepth 100000
namespace Go.Proofs.YtpfhhdiipedklaaDoor
open Go.RowKit

theorem many_cat (x y : Pat) (ks : Value) (w : World) (hk : Kids w [x, y] ks) : Calls Tryd.prog 18 #[.int .i64 1, ks] w fun e w' => e = .returned (.agg #[.int .i64 (catP x y).op, .int .u64 (wd (catP x y).set 0), .int .u64 (wd (catP x y).set 1), .int .u64 (wd (catP x y).set 2), .int .u64 (wd (catP x y).set 3), .int .i64 (catP x y).lo, .int .i64 (catP x y).hi, ks]) ∧ Below w.heap.size w w' := rmany_any 1 ks [x, y] w hk
theorem many_alt (x y : Pat) (ks : Value) (w : World) (hk : Kids w [x, y] ks) : Calls Tryd.prog 18 #[.int .i64 2, ks] w fun e w' => e = .returned (.agg #[.int .i64 (altP x y).op, .int .u64 (wd (altP x y).set 0), .int .u64 (wd (altP x y).set 1), .int .u64 (wd (altP x y).set 2), .int .u64 (wd (altP x y).set 3), .int .i64 (altP x y).lo, .int .i64 (altP x y).hi, ks]) ∧ Below w.heap.size w w' := rmany_any 2 ks [x, y] w hk
/-- A built machine of a plain pattern, as it lies in a block. -/
structure MBox (w : World) (b : Nat) (p : Pat) (ae aa : Option Addr) (ce ca : Nat) : Prop where
  box : Nblk w b p.cnt (.slice ae (bld p M0).e.length ce) (.slice aa (bld p M0).a.length ca)
  re : RowE w (.slice ae (bld p M0).e.length ce) (bld p M0).e
  ra : RowA w (.slice aa (bld p M0).a.length ca) (bld p M0).a
theorem MBox.below {w w' : World} {b : Nat} {p : Pat} {ae aa : Option Addr} {ce ca : Nat} (h : MBox w b p ae aa ce ca) (hb : Below w.heap.size w w') : MBox w' b p ae aa ce ca := ⟨h.box.below hb, h.re.below hb, h.ra.below hb⟩
theorem MBox.new {w : World} {p : Pat} {ae aa : Option Addr} {ce ca : Nat} (h1 : RowE w (.slice ae (bld p M0).e.length ce) (bld p M0).e) (h2 : RowA w (.slice aa (bld p M0).a.length ca) (bld p M0).a) : MBox (w.alloc (.cells #[.int .i64 p.cnt, .slice ae (bld p M0).e.length ce, .slice aa (bld p M0).a.length ca, .int .i64 0, .int .i64 1] 27)) w.heap.size p ae aa ce ca :=
  ⟨Nblk.new w _ _ _, h1.below (new_one w _), h2.below (new_one w _)⟩
/-- Whole at such a machine. -/
theorem whole_box (p : Pat) (hg : p.good = true ∧ p.pln = true) (hc : p.cnt ≤ 4096) (ae aa : Option Addr) (ce ca b : Nat) (s : ByteArray) (w : World) (h : MBox w b p ae aa ce ca) (hs : s.size ≤ 60) (hT : Tab w) :
    Calls Tryd.prog 16 #[.agg #[.int .i64 p.cnt, .slice ae (bld p M0).e.length ce, .slice aa (bld p M0).a.length ca, .int .i64 0, .int .i64 1], .string s] w fun e w' => e = .returned (.bool (MB s p)) ∧ Below w.heap.size w w' := by
  have hok := built_ok hg.1 hg.2
  have h9 := nwhole_any p.cnt (bld p M0).e (bld p M0).a _ _ s w hc h.re h.ra (by omega) (by omega) hs hT
  rwa [MB_goes s p hg.1 hg.2] at h9
/-- What a Build left: an error, or a machine in its block. -/
def LeftB (w : World) (b : Nat) (p : Pat) (n : Int) (ae : Option Addr) (ne ce : Nat) (aa : Option Addr) (na ca : Nat) (x r : Int) : Prop :=
  r = 70 ∨ (r = 0 ∧ x = 1 ∧ n = p.cnt ∧ ne = (bld p M0).e.length ∧ na = (bld p M0).a.length ∧ p.cnt ≤ 4096 ∧ MBox w b p ae aa ce ca)
theorem LeftB.below {w w' : World} {b : Nat} {p : Pat} {n : Int} {ae : Option Addr} {ne ce : Nat} {aa : Option Addr} {na ca : Nat} {x r : Int} (h : LeftB w b p n ae ne ce aa na ca x r) (hb : Below w.heap.size w w') : LeftB w' b p n ae ne ce aa na ca x r := by
  rcases h with h | ⟨h1, h2, h3, h4, h5, h6, h7⟩
  · exact .inl h
  · exact .inr ⟨h1, h2, h3, h4, h5, h6, h7.below hb⟩
theorem LeftB.new {w : World} {p : Pat} {n : Int} {ae : Option Addr} {ne ce : Nat} {aa : Option Addr} {na ca : Nat} {x r : Int} (h : r = 70 ∨ (r = 0 ∧ x = 1 ∧ n = p.cnt ∧ ne = (bld p M0).e.length ∧ na = (bld p M0).a.length ∧ p.cnt ≤ 4096 ∧ RowE w (.slice ae ne ce) (bld p M0).e ∧ RowA w (.slice aa na ca) (bld p M0).a)) :
    LeftB (w.alloc (.cells #[.int .i64 n, .slice ae ne ce, .slice aa na ca, .int .i64 0, .int .i64 x] 27)) w.heap.size p n ae ne ce aa na ca x r := by
  rcases h with h | ⟨h1, rfl, rfl, rfl, rfl, h6, h7, h8⟩
  · exact .inl h
  · exact .inr ⟨h1, rfl, rfl, rfl, rfl, h6, MBox.new h7 h8⟩
set_option linter.unusedSimpArgs false in
set_option maxHeartbeats 8000000 in
theorem parts_law (ta tb s : ByteArray) (w : World) (hT : Tab w) :
    Calls Tryd.prog 6 #[.string ta, .string tb, .string s] w fun e w' => e = .returned (.bool true) ∧ Below w.heap.size w w' := by
  have HAW := Lib.hid (awake_any w hT)
  have HT := Lib.hid hT
  have mixed : Tryd.prog.follows .mixedOrders = true := by kernel_rfl
  clear hT
  go_enter Tryd.func6, Tryd.ntmps6
  go_upto_region 2 with (go_at_call 7; (with_reducible refine HAW.out.mono ?_); rintro e w1 ⟨rfl, hb1⟩)
  have HB1 := Lib.hid hb1
  clear hb1 HAW
  by_cases hca : ta.size > 8
  · have hd1 : decide ((ta.size : Int) > 8) = true := decide_eq_true (by omega)
    have hd2 : decide ((8 : Int) < ta.size) = true := decide_eq_true (by omega)
    go_wp2
    go_ret
    exact ⟨rfl, HB1.out⟩
  have hd1a : decide ((ta.size : Int) > 8) = false := decide_eq_false (by omega)
  have hd2a : decide ((8 : Int) < ta.size) = false := decide_eq_false (by omega)
  have hla : ta.size ≤ 8 := by omega
  clear hca
  by_cases hcb : tb.size > 8
  · have hd1 : decide ((tb.size : Int) > 8) = true := decide_eq_true (by omega)
    have hd2 : decide ((8 : Int) < tb.size) = true := decide_eq_true (by omega)
    go_wp2
    go_ret
    exact ⟨rfl, HB1.out⟩
  have hd1b : decide ((tb.size : Int) > 8) = false := decide_eq_false (by omega)
  have hd2b : decide ((8 : Int) < tb.size) = false := decide_eq_false (by omega)
  have hlb : tb.size ≤ 8 := by omega
  clear hcb
  by_cases hcc : s.size > 8
  · have hd1 : decide ((s.size : Int) > 8) = true := decide_eq_true (by omega)
    have hd2 : decide ((8 : Int) < s.size) = true := decide_eq_true (by omega)
    go_wp2
    go_ret
    exact ⟨rfl, HB1.out⟩
  have hd1c : decide ((s.size : Int) > 8) = false := decide_eq_false (by omega)
  have hd2c : decide ((8 : Int) < s.size) = false := decide_eq_false (by omega)
  have hlc : s.size ≤ 8 := by omega
  clear hcc
  have HPA := Lib.hid (rplain_any ta w1 (by omega))
  go_upto_region 7 with (go_at_call 9; (with_reducible refine HPA.out.mono ?_); rintro e w2 ⟨x, kx, rfl, HKX, hsx, HGX, HB2⟩; obtain ⟨ax, cx, rfl⟩ := HKX.out.len)
  obtain ⟨bx, hbxe⟩ : ∃ bx, w2.heap.size = bx := ⟨_, rfl⟩
  obtain ⟨w3, hw3⟩ : ∃ w3, w2.alloc (.cells #[.int .i64 x.op, .int .u64 (wd x.set 0), .int .u64 (wd x.set 1), .int .u64 (wd x.set 2), .int .u64 (wd x.set 3), .int .i64 x.lo, .int .i64 x.hi, .slice ax x.kids.length cx] 36) = w3 := ⟨_, rfl⟩
  have HX3 : Hid (PBox w3 bx x (.slice ax x.kids.length cx)) := Lib.hid (by rw [← hw3, ← hbxe]; exact PBox.new HKX.out)
  have HW3 := Lib.hid (show Below w.heap.size w w3 from (HB1.out.trans (HB2.out.mono HB1.out.size)).trans (by rw [← hw3]; exact (new_one w2 _).mono (Nat.le_trans HB1.out.size HB2.out.size)))
  rw [hw3, hbxe]
  clear hw3 hbxe HPA HKX HB2 HB1 hd1a hd2a hd1b hd2b hd1c hd2c
  have HPB := Lib.hid (rplain_any tb w3 (by omega))
  go_upto_region 8 with (go_at_call 9; (with_reducible refine HPB.out.mono ?_); rintro e w4 ⟨y, ky, rfl, HKY, hsy, HGY, HB4⟩; obtain ⟨ay, cy, rfl⟩ := HKY.out.len)
  obtain ⟨by_, hbye⟩ : ∃ by_, w4.heap.size = by_ := ⟨_, rfl⟩
  obtain ⟨w5, hw5⟩ : ∃ w5, w4.alloc (.cells #[.int .i64 y.op, .int .u64 (wd y.set 0), .int .u64 (wd y.set 1), .int .u64 (wd y.set 2), .int .u64 (wd y.set 3), .int .i64 y.lo, .int .i64 y.hi, .slice ay y.kids.length cy] 36) = w5 := ⟨_, rfl⟩
  have hb45 : Below w4.heap.size w4 w5 := by rw [← hw5]; exact new_one w4 _
  have HY5 : Hid (PBox w5 by_ y (.slice ay y.kids.length cy)) := Lib.hid (by rw [← hw5, ← hbye]; exact PBox.new HKY.out)
  have HX5 := Lib.hid (HX3.out.below (HB4.out.trans (hb45.mono HB4.out.size)))
  have HW5 := Lib.hid (show Below w.heap.size w w5 from HW3.out.trans ((HB4.out.trans (hb45.mono HB4.out.size)).mono HW3.out.size))
  rw [hw5, hbye]
  clear hw5 hbye hb45 HPB HKY HB4 HX3 HW3
  obtain ⟨x0, x1, x2, x3, x4, x5, x6, x7⟩ := node_box HX5.out.cells
  obtain ⟨y0, y1, y2, y3, y4, y5, y6, y7⟩ := node_box HY5.out.cells
  go_upto_region 9 with fail
  obtain ⟨bt, hbte⟩ : ∃ bt, w5.heap.size = bt := ⟨_, rfl⟩
  obtain ⟨w6, hw6⟩ : ∃ w6, w5.alloc (.cells #[.int .i64 x.op, .int .u64 (wd x.set 0), .int .u64 (wd x.set 1), .int .u64 (wd x.set 2), .int .u64 (wd x.set 3), .int .i64 x.lo, .int .i64 x.hi, .slice ax x.kids.length cx, .int .i64 y.op, .int .u64 (wd y.set 0), .int .u64 (wd y.set 1), .int .u64 (wd y.set 2), .int .u64 (wd y.set 3), .int .i64 y.lo, .int .i64 y.hi, .slice ay y.kids.length cy] 36) = w6 := ⟨_, rfl⟩
  have hb56 : Below w5.heap.size w5 w6 := by rw [← hw6]; exact new_one w5 _
  have HK6 : Hid (Kids w6 [x, y] (.slice (some ⟨bt, 0, none⟩) 2 2)) := Lib.hid (by rw [← hw6]; exact Kids.two (n := bt) HX5.out.kids HY5.out.kids hbte)
  have HX6 := Lib.hid (HX5.out.below hb56)
  have HY6 := Lib.hid (HY5.out.below hb56)
  have HW6 := Lib.hid (HW5.out.trans (hb56.mono HW5.out.size))
  rw [hw6, hbte]
  clear hw6 hbte hb56 HX5 HY5 HW5 x0 x1 x2 x3 x4 x5 x6 x7 y0 y1 y2 y3 y4 y5 y6 y7
  have HGC := Lib.hid (show (catP x y).good = true ∧ (catP x y).pln = true from two_good (.inl rfl) HGX.out HGY.out)
  have HGD := Lib.hid (show (altP x y).good = true ∧ (altP x y).pln = true from two_good (.inr rfl) HGX.out HGY.out)
  have hsc : (catP x y).size ≤ 64 := by simp only [catP, Pat.size, Pat.sizes]; omega
  have hsd : (altP x y).size ≤ 64 := by simp only [altP, Pat.size, Pat.sizes]; omega
  have HBDp := Lib.hid (nbuild_plain x (.slice ax x.kids.length cx) w6 (by omega) HX6.out.kids HGX.out)
  obtain ⟨z0, z1, z2, z3, z4, z5, z6, z7⟩ := node_box HX6.out.cells
  go_upto_region 10 with (go_at_call 8; (with_reducible refine HBDp.out.mono ?_); rintro e w7 ⟨np, aep, nep, cep, aap, nap, cap, xp, rp, rfl, HRp, HBBp⟩)
  obtain ⟨mp, hmp⟩ : ∃ mp, w7.heap.size = mp := ⟨_, rfl⟩
  obtain ⟨w8, hwp⟩ : ∃ w8, w7.alloc (.cells #[.int .i64 np, .slice aep nep cep, .slice aap nap cap, .int .i64 0, .int .i64 xp] 27) = w8 := ⟨_, rfl⟩
  have hbbp : Below w6.heap.size w6 w8 := HBBp.out.trans (by rw [← hwp]; exact (new_one w7 _).mono HBBp.out.size)
  have HLp : Hid (LeftB w8 mp x np aep nep cep aap nap cap xp rp) := Lib.hid (by rw [← hwp, ← hmp]; exact LeftB.new HRp.out)
  rw [hwp, hmp]
  clear hwp hmp HRp
  have HY8 := Lib.hid (HY6.out.below hbbp)
  have HK8 := Lib.hid (HK6.out.below hbbp)
  have HW8 := Lib.hid (HW6.out.trans (hbbp.mono HW6.out.size))
  clear z0 z1 z2 z3 z4 z5 z6 z7 HBDp HBBp hbbp HX6 HY6 HK6 HW6
  have HBDq := Lib.hid (nbuild_plain y (.slice ay y.kids.length cy) w8 (by omega) HY8.out.kids HGY.out)
  obtain ⟨z0, z1, z2, z3, z4, z5, z6, z7⟩ := node_box HY8.out.cells
  go_upto_region 11 with (go_at_call 8; (with_reducible refine HBDq.out.mono ?_); rintro e w9 ⟨nq, aeq, neq, ceq, aaq, naq, caq, xq, rq, rfl, HRq, HBBq⟩)
  obtain ⟨mq, hmq⟩ : ∃ mq, w9.heap.size = mq := ⟨_, rfl⟩
  obtain ⟨w10, hwq⟩ : ∃ w10, w9.alloc (.cells #[.int .i64 nq, .slice aeq neq ceq, .slice aaq naq caq, .int .i64 0, .int .i64 xq] 27) = w10 := ⟨_, rfl⟩
  have hbbq : Below w8.heap.size w8 w10 := HBBq.out.trans (by rw [← hwq]; exact (new_one w9 _).mono HBBq.out.size)
  have HLq : Hid (LeftB w10 mq y nq aeq neq ceq aaq naq caq xq rq) := Lib.hid (by rw [← hwq, ← hmq]; exact LeftB.new HRq.out)
  rw [hwq, hmq]
  clear hwq hmq HRq
  have HLp10 := Lib.hid (HLp.out.below hbbq)
  have HK10 := Lib.hid (HK8.out.below hbbq)
  have HW10 := Lib.hid (HW8.out.trans (hbbq.mono HW8.out.size))
  clear z0 z1 z2 z3 z4 z5 z6 z7 HBDq HBBq hbbq HY8 HK8 HW8 HLp
  have HMC := Lib.hid (many_cat x y _ w10 HK10.out)
  go_upto_region 12 with (first
    | (go_at_call 18; (with_reducible refine HMC.out.mono ?_); rintro e w11 ⟨rfl, hb11⟩; have HB11 := Lib.hid hb11; have HBDc := Lib.hid (nbuild_plain (catP x y) (.slice (some ⟨bt, 0, none⟩) 2 2) w11 hsc (HK10.out.below hb11) HGC.out); clear hb11)
    | (go_at_call 8; (with_reducible refine HBDc.out.mono ?_); rintro e w12 ⟨nc, aec, nec, cec, aac, nac, cac, xc, rc, rfl, HRc, HBBc⟩))
  obtain ⟨mc, hmc⟩ : ∃ mc, w12.heap.size = mc := ⟨_, rfl⟩
  obtain ⟨w13, hwc⟩ : ∃ w13, w12.alloc (.cells #[.int .i64 nc, .slice aec nec cec, .slice aac nac cac, .int .i64 0, .int .i64 xc] 27) = w13 := ⟨_, rfl⟩
  have hbbc : Below w10.heap.size w10 w13 := (HB11.out.trans (HBBc.out.mono HB11.out.size)).trans (by rw [← hwc]; exact (new_one w12 _).mono (HB11.out.trans (HBBc.out.mono HB11.out.size)).size)
  have HLc : Hid (LeftB w13 mc (catP x y) nc aec nec cec aac nac cac xc rc) := Lib.hid (by rw [← hwc, ← hmc]; exact LeftB.new HRc.out)
  rw [hwc, hmc]
  clear hwc hmc HRc
  have HLp13 := Lib.hid (HLp10.out.below hbbc)
  have HLq13 := Lib.hid (HLq.out.below hbbc)
  have HK13 := Lib.hid (HK10.out.below hbbc)
  have HW13 := Lib.hid (HW10.out.trans (hbbc.mono HW10.out.size))
  clear HMC HB11 HBDc HBBc hbbc HK10 HW10 HLp10 HLq
  have HMD := Lib.hid (many_alt x y _ w13 HK13.out)
  go_upto_region 13 with (first
    | (go_at_call 18; (with_reducible refine HMD.out.mono ?_); rintro e w14 ⟨rfl, hb14⟩; have HB14 := Lib.hid hb14; have HBDd := Lib.hid (nbuild_plain (altP x y) (.slice (some ⟨bt, 0, none⟩) 2 2) w14 hsd (HK13.out.below hb14) HGD.out); clear hb14)
    | (go_at_call 8; (with_reducible refine HBDd.out.mono ?_); rintro e w15 ⟨nd, aed, ned, ced, aad, nad, cad, xd, rd, rfl, HRd, HBBd⟩))
  obtain ⟨md, hmd⟩ : ∃ md, w15.heap.size = md := ⟨_, rfl⟩
  obtain ⟨w16, hwd⟩ : ∃ w16, w15.alloc (.cells #[.int .i64 nd, .slice aed ned ced, .slice aad nad cad, .int .i64 0, .int .i64 xd] 27) = w16 := ⟨_, rfl⟩
  have hbbd : Below w13.heap.size w13 w16 := (HB14.out.trans (HBBd.out.mono HB14.out.size)).trans (by rw [← hwd]; exact (new_one w15 _).mono (HB14.out.trans (HBBd.out.mono HB14.out.size)).size)
  have HLd : Hid (LeftB w16 md (altP x y) nd aed ned ced aad nad cad xd rd) := Lib.hid (by rw [← hwd, ← hmd]; exact LeftB.new HRd.out)
  rw [hwd, hmd]
  clear hwd hmd HRd
  have HLp16 := Lib.hid (HLp13.out.below hbbd)
  have HLq16 := Lib.hid (HLq13.out.below hbbd)
  have HLc16 := Lib.hid (HLc.out.below hbbd)
  have HW16 := Lib.hid (HW13.out.trans (hbbd.mono HW13.out.size))
  clear HMD HB14 HBDd HBBd hbbd HK13 HW13 HLp13 HLq13 HLc
  rcases HLp16.out with rfl | ⟨rfl, rfl, rfl, rfl, rfl, hcp, hMp⟩
  · go_wp2
    go_ret
    exact ⟨rfl, HW16.out⟩
  rcases HLq16.out with rfl | ⟨rfl, rfl, rfl, rfl, rfl, hcq, hMq⟩
  · go_wp2
    go_ret
    exact ⟨rfl, HW16.out⟩
  rcases HLc16.out with rfl | ⟨rfl, rfl, rfl, rfl, rfl, hcc, hMc⟩
  · go_wp2
    go_ret
    exact ⟨rfl, HW16.out⟩
  rcases HLd.out with rfl | ⟨rfl, rfl, rfl, rfl, rfl, hcd, hMd⟩
  · go_wp2
    go_ret
    exact ⟨rfl, HW16.out⟩
  have HWP := Lib.hid (fun W (hW : Below w16.heap.size w16 W) t (ht : t.size ≤ 60) => whole_box x HGX.out hcp aep aap cep cap mp t W (hMp.below hW) ht (HT.out.below (HW16.out.trans (hW.mono HW16.out.size))))
  have HWQ := Lib.hid (fun W (hW : Below w16.heap.size w16 W) t (ht : t.size ≤ 60) => whole_box y HGY.out hcq aeq aaq ceq caq mq t W (hMq.below hW) ht (HT.out.below (HW16.out.trans (hW.mono HW16.out.size))))
  have HWC := Lib.hid (fun W (hW : Below w16.heap.size w16 W) t (ht : t.size ≤ 60) => whole_box (catP x y) HGC.out hcc aec aac cec cac mc t W (hMc.below hW) ht (HT.out.below (HW16.out.trans (hW.mono HW16.out.size))))
  have HWD := Lib.hid (fun W (hW : Below w16.heap.size w16 W) t (ht : t.size ≤ 60) => whole_box (altP x y) HGD.out hcd aed aad ced cad md t W (hMd.below hW) ht (HT.out.below (HW16.out.trans (hW.mono HW16.out.size))))
  have HNP := Lib.hid (fun W (hW : Below w16.heap.size w16 W) => (hMp.box.below hW).cells)
  have HNQ := Lib.hid (fun W (hW : Below w16.heap.size w16 W) => (hMq.box.below hW).cells)
  have HNC := Lib.hid (fun W (hW : Below w16.heap.size w16 W) => (hMc.box.below hW).cells)
  have HND := Lib.hid (fun W (hW : Below w16.heap.size w16 W) => (hMd.box.below hW).cells)
  have HALL := Lib.hid (parted_all s x y HGX.out HGY.out)
  have HALT := Lib.hid (MB_alt s x y)
  have HSUC := Lib.hid (fun k => parted_succ s x y k)
  clear hMp hMq hMc hMd HLp16 HLq16 HLc16 HLd HGX HGY HGC HGD hcp hcq hcc hcd hsc hsd
  generalize (bld x M0).e = Ep at *
  generalize (bld x M0).a = Ap at *
  generalize x.cnt = cntp at *
  generalize (bld y M0).e = Eq at *
  generalize (bld y M0).a = Aq at *
  generalize y.cnt = cntq at *
  generalize (bld (catP x y) M0).e = Ec at *
  generalize (bld (catP x y) M0).a = Ac at *
  generalize (catP x y).cnt = cntc at *
  generalize (bld (altP x y) M0).e = Ed at *
  generalize (bld (altP x y) M0).a = Ad at *
  generalize (altP x y).cnt = cntd at *
  have HR0 : Hid (Below w16.heap.size w16 w16) := Lib.hid (Below.refl _ _)
  have HP0 : Hid (parted s x y 0 = false) := Lib.hid rfl
  go_wp2
  go_loopw [19, 20] (fun v z wr => ∃ (k : Nat) (q : Bool), z = .int .i64 k ∧ v = .bool q ∧ k ≤ s.size + 1 ∧ Hid (parted s x y k = q) ∧ Hid (Below w16.heap.size w16 wr)) (fun _ z _ => s.size + 1 - (intOf z).toNat)
  case atStart => exact ⟨0, false, rfl, rfl, Nat.zero_le _, HP0, HR0⟩
  case round =>
    clear HP0 HR0
    obtain ⟨k, q, rfl, rfl, hk, HPQ, HBR⟩ := hrel
    have hbd : Below w16.heap.size w16 wr.drew := HBR.out.trans ((Below.refl _ wr).drew.mono HBR.out.size)
    obtain ⟨p0, p1, p2, p3, p4⟩ := HNP.out wr.drew hbd
    obtain ⟨q0, q1, q2, q3, q4⟩ := HNQ.out wr.drew hbd
    by_cases hlt : k ≤ s.size
    · have hdd : decide ((k : Int) ≤ s.size) = true := decide_eq_true (by omega)
      have HS1 := Lib.hid (HSUC.out k)
      rw [HPQ.out] at HS1
      cases q
      · have hz1 := part_size s 0 k hlt
        have hz2 := part_size s k s.size (Nat.le_refl _)
        have HC1 := Lib.hid (HWP.out wr.drew hbd (s.extract 0 k) (by omega))
        have HC2 := Lib.hid (fun W hW => HWQ.out W hW (s.extract k s.size) (by omega))
        have HU1 := HS1
        generalize MB (s.extract k s.size) y = r2 at *
        cases hr1 : MB (s.extract 0 k) x
        · rw [hr1] at HC1 HU1
          have HNX : Hid (parted s x y (k + 1) = false) := Lib.hid (by rw [HU1.out]; simp)
          clear HPQ HU1 HS1 hr1 hz1 hz2
          go_upto_region 19 with fail
          refine region_goes 15 16 rfl (fun W => W.cell? ⟨mp, 0, none⟩ = some (.int .i64 cntp) ∧ W.cell? ⟨mp, 1, none⟩ = some (.slice aep Ep.length cep) ∧ W.cell? ⟨mp, 2, none⟩ = some (.slice aap Ap.length cap) ∧ W.cell? ⟨mp, 3, none⟩ = some (.int .i64 0) ∧ W.cell? ⟨mp, 4, none⟩ = some (.int .i64 1) ∧ W.cell? ⟨mq, 0, none⟩ = some (.int .i64 cntq) ∧ W.cell? ⟨mq, 1, none⟩ = some (.slice aeq Eq.length ceq) ∧ W.cell? ⟨mq, 2, none⟩ = some (.slice aaq Aq.length caq) ∧ W.cell? ⟨mq, 3, none⟩ = some (.int .i64 0) ∧ W.cell? ⟨mq, 4, none⟩ = some (.int .i64 1)) mixed ⟨p0, p1, p2, p3, p4, q0, q1, q2, q3, q4⟩ (fun hHeld => ?_)
          clear p0 p1 p2 p3 p4 q0 q1 q2 q3 q4
          refine goes_take (i := 0) (v := (.bool false)) rfl (by kernel_rfl) (by kernel_rfl) (by kernel_rfl) (by kernel_rfl) (fun _ _ _ h => h) (Or.inl ⟨by rfl, ?gy1⟩) (by assumption) ?gr1
          case gy1 => (intro W9 hW9; obtain ⟨k0, k1, k2, k3, k4, k5, k6, k7, k8, k9⟩ := hW9; first | (go_simp; done) | (go_simp; with_reducible rfl))
          simp only [Act.put, List.getElem_toArray, List.getElem_cons_succ, List.getElem_cons_zero, List.setIfInBounds_toArray, List.set_cons_zero, List.set_cons_succ]
          refine goes_take (i := 1) (v := (.bool false)) rfl (by kernel_rfl) (by kernel_rfl) (by kernel_rfl) (by kernel_rfl) (fun _ _ _ h => h) (Or.inl ⟨by rfl, ?gy2⟩) (by assumption) ?gr2
          case gy2 => (intro W9 hW9; obtain ⟨k0, k1, k2, k3, k4, k5, k6, k7, k8, k9⟩ := hW9; first | (go_simp; done) | (go_simp; with_reducible rfl))
          simp only [Act.put, List.getElem_toArray, List.getElem_cons_succ, List.getElem_cons_zero, List.setIfInBounds_toArray, List.set_cons_zero, List.set_cons_succ]
          refine goes_take (i := 2) (v := ?gv3) rfl (by kernel_rfl) (by kernel_rfl) (by kernel_rfl) (by kernel_rfl) (fun _ _ _ h => h) (Or.inl ⟨by rfl, ?gy3⟩) (by assumption) ?gr3
          case gy3 => (intro W9 hW9; obtain ⟨k0, k1, k2, k3, k4, k5, k6, k7, k8, k9⟩ := hW9; first | (go_simp; done) | (go_simp; with_reducible rfl))
          simp only [Act.put, List.getElem_toArray, List.getElem_cons_succ, List.getElem_cons_zero, List.setIfInBounds_toArray, List.set_cons_zero, List.set_cons_succ]
          refine goes_take (i := 3) (v := ?gv4) rfl (by kernel_rfl) (by kernel_rfl) (by kernel_rfl) (by kernel_rfl) (fun _ _ _ h => h) (Or.inl ⟨by rfl, ?gy4⟩) (by assumption) ?gr4
          case gy4 => (intro W9 hW9; obtain ⟨k0, k1, k2, k3, k4, k5, k6, k7, k8, k9⟩ := hW9; first | (go_simp; done) | (go_simp; with_reducible rfl))
          simp only [Act.put, List.getElem_toArray, List.getElem_cons_succ, List.getElem_cons_zero, List.setIfInBounds_toArray, List.set_cons_zero, List.set_cons_succ]
          refine goes_take (i := 4) (v := ?gv5) rfl (by kernel_rfl) (by kernel_rfl) (by kernel_rfl) (by kernel_rfl) (fun _ _ _ h => h) (Or.inl ⟨by rfl, ?gy5⟩) (by assumption) ?gr5
          case gy5 => (intro W9 hW9; obtain ⟨k0, k1, k2, k3, k4, k5, k6, k7, k8, k9⟩ := hW9; first | (go_simp; done) | (go_simp; with_reducible rfl))
          simp only [Act.put, List.getElem_toArray, List.getElem_cons_succ, List.getElem_cons_zero, List.setIfInBounds_toArray, List.set_cons_zero, List.set_cons_succ]
          refine goes_take (i := 5) (v := (.string (s.extract 0 k))) rfl (by kernel_rfl) (by kernel_rfl) (by kernel_rfl) (by kernel_rfl) (fun _ _ _ h => h) (Or.inl ⟨by rfl, ?gy6⟩) (by assumption) ?gr6
          case gy6 => (intro W9 hW9; obtain ⟨k0, k1, k2, k3, k4, k5, k6, k7, k8, k9⟩ := hW9; first | (go_simp; done) | (go_simp; with_reducible rfl))
          simp only [Act.put, List.getElem_toArray, List.getElem_cons_succ, List.getElem_cons_zero, List.setIfInBounds_toArray, List.set_cons_zero, List.set_cons_succ]
          refine goes_one (i := 6) (by kernel_rfl) rfl (fun K9 hK9 => ?_)
          rw [if_pos (by rfl)]
          go_simp
          refine (HC1.out).mono ?_
          rintro e w6' ⟨rfl, hb6⟩
          have hb6' := hbd.trans (hb6.mono hbd.size)
          obtain ⟨k0, k1, k2, k3, k4, k5, k6, k7, k8, k9⟩ := hHeld
          refine hK9.out _ _ (fun _ => ⟨cell_below hb6 k0, cell_below hb6 k1, cell_below hb6 k2, cell_below hb6 k3, cell_below hb6 k4, cell_below hb6 k5, cell_below hb6 k6, cell_below hb6 k7, cell_below hb6 k8, cell_below hb6 k9⟩) (fun hHeld => ?_)
          have hHeld := hHeld (by decide)
          clear hK9 K9 k0 k1 k2 k3 k4 k5 k6 k7 k8 k9
          refine goes_take (i := 7) (v := (.bool false)) rfl (by kernel_rfl) (by kernel_rfl) (by kernel_rfl) (by kernel_rfl) (fun _ _ _ h => h) (Or.inl ⟨by rfl, ?gy7⟩) (by assumption) ?gr7
          case gy7 => (intro W9 hW9; obtain ⟨k0, k1, k2, k3, k4, k5, k6, k7, k8, k9⟩ := hW9; first | (go_simp; done) | (go_simp; with_reducible rfl))
          simp only [Act.put, List.getElem_toArray, List.getElem_cons_succ, List.getElem_cons_zero, List.setIfInBounds_toArray, List.set_cons_zero, List.set_cons_succ]
          refine goes_take (i := 8) (v := undef) rfl (by kernel_rfl) (by kernel_rfl) (by kernel_rfl) (by kernel_rfl) (fun _ _ _ h => h) (Or.inr ⟨by rfl, rfl⟩) (by assumption) ?_
          simp only [Act.put, List.getElem_toArray, List.getElem_cons_succ, List.getElem_cons_zero, List.setIfInBounds_toArray, List.set_cons_zero, List.set_cons_succ]
          refine goes_take (i := 9) (v := undef) rfl (by kernel_rfl) (by kernel_rfl) (by kernel_rfl) (by kernel_rfl) (fun _ _ _ h => h) (Or.inr ⟨by rfl, rfl⟩) (by assumption) ?_
          simp only [Act.put, List.getElem_toArray, List.getElem_cons_succ, List.getElem_cons_zero, List.setIfInBounds_toArray, List.set_cons_zero, List.set_cons_succ]
          refine goes_take (i := 10) (v := undef) rfl (by kernel_rfl) (by kernel_rfl) (by kernel_rfl) (by kernel_rfl) (fun _ _ _ h => h) (Or.inr ⟨by rfl, rfl⟩) (by assumption) ?_
          simp only [Act.put, List.getElem_toArray, List.getElem_cons_succ, List.getElem_cons_zero, List.setIfInBounds_toArray, List.set_cons_zero, List.set_cons_succ]
          refine goes_take (i := 11) (v := undef) rfl (by kernel_rfl) (by kernel_rfl) (by kernel_rfl) (by kernel_rfl) (fun _ _ _ h => h) (Or.inr ⟨by rfl, rfl⟩) (by assumption) ?_
          simp only [Act.put, List.getElem_toArray, List.getElem_cons_succ, List.getElem_cons_zero, List.setIfInBounds_toArray, List.set_cons_zero, List.set_cons_succ]
          refine goes_take (i := 12) (v := undef) rfl (by kernel_rfl) (by kernel_rfl) (by kernel_rfl) (by kernel_rfl) (fun _ _ _ h => h) (Or.inr ⟨by rfl, rfl⟩) (by assumption) ?_
          simp only [Act.put, List.getElem_toArray, List.getElem_cons_succ, List.getElem_cons_zero, List.setIfInBounds_toArray, List.set_cons_zero, List.set_cons_succ]
          refine goes_take (i := 13) (v := (.bool false)) rfl (by kernel_rfl) (by kernel_rfl) (by kernel_rfl) (by kernel_rfl) (fun _ _ _ h => h) (Or.inl ⟨by rfl, ?gy8⟩) (by assumption) ?gr8
          case gy8 => (intro W9 hW9; obtain ⟨k0, k1, k2, k3, k4, k5, k6, k7, k8, k9⟩ := hW9; first | (go_simp; done) | (go_simp; with_reducible rfl))
          simp only [Act.put, List.getElem_toArray, List.getElem_cons_succ, List.getElem_cons_zero, List.setIfInBounds_toArray, List.set_cons_zero, List.set_cons_succ]
          refine goes_take (i := 14) (v := (.bool false)) rfl (by kernel_rfl) (by kernel_rfl) (by kernel_rfl) (by kernel_rfl) (fun _ _ _ h => h) (Or.inl ⟨by rfl, ?gy9⟩) (by assumption) ?gr9
          case gy9 => (intro W9 hW9; obtain ⟨k0, k1, k2, k3, k4, k5, k6, k7, k8, k9⟩ := hW9; first | (go_simp; done) | (go_simp; with_reducible rfl))
          simp only [Act.put, List.getElem_toArray, List.getElem_cons_succ, List.getElem_cons_zero, List.setIfInBounds_toArray, List.set_cons_zero, List.set_cons_succ]
          refine goes_one (i := 15) (by kernel_rfl) rfl (fun K9 hK9 => ?_)
          go_simp
          refine hK9.out _ _ (fun h => absurd rfl h) (fun _ => ?_)
          clear hK9 K9 hHeld
          refine goes_done (by kernel_rfl) ?_ _
          go_wp2
          go_roundw
          case rel => exact ⟨k + 1, false, num_succ k, rfl, by omega, HNX, Lib.hid hb6'⟩
          case measure => simp [intOf]; omega
        · rw [hr1] at HC1 HU1
          have HNX : Hid (parted s x y (k + 1) = r2) := Lib.hid (by rw [HU1.out]; simp)
          clear HPQ HU1 HS1 hr1 hz1 hz2
          go_upto_region 19 with fail
          refine region_goes 15 16 rfl (fun W => W.cell? ⟨mp, 0, none⟩ = some (.int .i64 cntp) ∧ W.cell? ⟨mp, 1, none⟩ = some (.slice aep Ep.length cep) ∧ W.cell? ⟨mp, 2, none⟩ = some (.slice aap Ap.length cap) ∧ W.cell? ⟨mp, 3, none⟩ = some (.int .i64 0) ∧ W.cell? ⟨mp, 4, none⟩ = some (.int .i64 1) ∧ W.cell? ⟨mq, 0, none⟩ = some (.int .i64 cntq) ∧ W.cell? ⟨mq, 1, none⟩ = some (.slice aeq Eq.length ceq) ∧ W.cell? ⟨mq, 2, none⟩ = some (.slice aaq Aq.length caq) ∧ W.cell? ⟨mq, 3, none⟩ = some (.int .i64 0) ∧ W.cell? ⟨mq, 4, none⟩ = some (.int .i64 1)) mixed ⟨p0, p1, p2, p3, p4, q0, q1, q2, q3, q4⟩ (fun hHeld => ?_)
          clear p0 p1 p2 p3 p4 q0 q1 q2 q3 q4
          refine goes_take (i := 0) (v := (.bool false)) rfl (by kernel_rfl) (by kernel_rfl) (by kernel_rfl) (by kernel_rfl) (fun _ _ _ h => h) (Or.inl ⟨by rfl, ?gy10⟩) (by assumption) ?gr10
          case gy10 => (intro W9 hW9; obtain ⟨k0, k1, k2, k3, k4, k5, k6, k7, k8, k9⟩ := hW9; first | (go_simp; done) | (go_simp; with_reducible rfl))
          simp only [Act.put, List.getElem_toArray, List.getElem_cons_succ, List.getElem_cons_zero, List.setIfInBounds_toArray, List.set_cons_zero, List.set_cons_succ]
          refine goes_take (i := 1) (v := (.bool false)) rfl (by kernel_rfl) (by kernel_rfl) (by kernel_rfl) (by kernel_rfl) (fun _ _ _ h => h) (Or.inl ⟨by rfl, ?gy11⟩) (by assumption) ?gr11
          case gy11 => (intro W9 hW9; obtain ⟨k0, k1, k2, k3, k4, k5, k6, k7, k8, k9⟩ := hW9; first | (go_simp; done) | (go_simp; with_reducible rfl))
          simp only [Act.put, List.getElem_toArray, List.getElem_cons_succ, List.getElem_cons_zero, List.setIfInBounds_toArray, List.set_cons_zero, List.set_cons_succ]
          refine goes_take (i := 2) (v := ?gv12) rfl (by kernel_rfl) (by kernel_rfl) (by kernel_rfl) (by kernel_rfl) (fun _ _ _ h => h) (Or.inl ⟨by rfl, ?gy12⟩) (by assumption) ?gr12
          case gy12 => (intro W9 hW9; obtain ⟨k0, k1, k2, k3, k4, k5, k6, k7, k8, k9⟩ := hW9; first | (go_simp; done) | (go_simp; with_reducible rfl))
          simp only [Act.put, List.getElem_toArray, List.getElem_cons_succ, List.getElem_cons_zero, List.setIfInBounds_toArray, List.set_cons_zero, List.set_cons_succ]
          refine goes_take (i := 3) (v := ?gv13) rfl (by kernel_rfl) (by kernel_rfl) (by kernel_rfl) (by kernel_rfl) (fun _ _ _ h => h) (Or.inl ⟨by rfl, ?gy13⟩) (by assumption) ?gr13
          case gy13 => (intro W9 hW9; obtain ⟨k0, k1, k2, k3, k4, k5, k6, k7, k8, k9⟩ := hW9; first | (go_simp; done) | (go_simp; with_reducible rfl))
          simp only [Act.put, List.getElem_toArray, List.getElem_cons_succ, List.getElem_cons_zero, List.setIfInBounds_toArray, List.set_cons_zero, List.set_cons_succ]
          refine goes_take (i := 4) (v := ?gv14) rfl (by kernel_rfl) (by kernel_rfl) (by kernel_rfl) (by kernel_rfl) (fun _ _ _ h => h) (Or.inl ⟨by rfl, ?gy14⟩) (by assumption) ?gr14
          case gy14 => (intro W9 hW9; obtain ⟨k0, k1, k2, k3, k4, k5, k6, k7, k8, k9⟩ := hW9; first | (go_simp; done) | (go_simp; with_reducible rfl))
          simp only [Act.put, List.getElem_toArray, List.getElem_cons_succ, List.getElem_cons_zero, List.setIfInBounds_toArray, List.set_cons_zero, List.set_cons_succ]
          refine goes_take (i := 5) (v := (.string (s.extract 0 k))) rfl (by kernel_rfl) (by kernel_rfl) (by kernel_rfl) (by kernel_rfl) (fun _ _ _ h => h) (Or.inl ⟨by rfl, ?gy15⟩) (by assumption) ?gr15
          case gy15 => (intro W9 hW9; obtain ⟨k0, k1, k2, k3, k4, k5, k6, k7, k8, k9⟩ := hW9; first | (go_simp; done) | (go_simp; with_reducible rfl))
          simp only [Act.put, List.getElem_toArray, List.getElem_cons_succ, List.getElem_cons_zero, List.setIfInBounds_toArray, List.set_cons_zero, List.set_cons_succ]
          refine goes_one (i := 6) (by kernel_rfl) rfl (fun K9 hK9 => ?_)
          rw [if_pos (by rfl)]
          go_simp
          refine (HC1.out).mono ?_
          rintro e w6' ⟨rfl, hb6⟩
          have hb6' := hbd.trans (hb6.mono hbd.size)
          obtain ⟨k0, k1, k2, k3, k4, k5, k6, k7, k8, k9⟩ := hHeld
          refine hK9.out _ _ (fun _ => ⟨cell_below hb6 k0, cell_below hb6 k1, cell_below hb6 k2, cell_below hb6 k3, cell_below hb6 k4, cell_below hb6 k5, cell_below hb6 k6, cell_below hb6 k7, cell_below hb6 k8, cell_below hb6 k9⟩) (fun hHeld => ?_)
          have hHeld := hHeld (by decide)
          clear hK9 K9 k0 k1 k2 k3 k4 k5 k6 k7 k8 k9
          refine goes_take (i := 7) (v := (.bool true)) rfl (by kernel_rfl) (by kernel_rfl) (by kernel_rfl) (by kernel_rfl) (fun _ _ _ h => h) (Or.inl ⟨by rfl, ?gy16⟩) (by assumption) ?gr16
          case gy16 => (intro W9 hW9; obtain ⟨k0, k1, k2, k3, k4, k5, k6, k7, k8, k9⟩ := hW9; first | (go_simp; done) | (go_simp; with_reducible rfl))
          simp only [Act.put, List.getElem_toArray, List.getElem_cons_succ, List.getElem_cons_zero, List.setIfInBounds_toArray, List.set_cons_zero, List.set_cons_succ]
          refine goes_take (i := 8) (v := ?gv17) rfl (by kernel_rfl) (by kernel_rfl) (by kernel_rfl) (by kernel_rfl) (fun _ _ _ h => h) (Or.inl ⟨by rfl, ?gy17⟩) (by assumption) ?gr17
          case gy17 => (intro W9 hW9; obtain ⟨k0, k1, k2, k3, k4, k5, k6, k7, k8, k9⟩ := hW9; first | (go_simp; done) | (go_simp; with_reducible rfl))
          simp only [Act.put, List.getElem_toArray, List.getElem_cons_succ, List.getElem_cons_zero, List.setIfInBounds_toArray, List.set_cons_zero, List.set_cons_succ]
          refine goes_take (i := 9) (v := ?gv18) rfl (by kernel_rfl) (by kernel_rfl) (by kernel_rfl) (by kernel_rfl) (fun _ _ _ h => h) (Or.inl ⟨by rfl, ?gy18⟩) (by assumption) ?gr18
          case gy18 => (intro W9 hW9; obtain ⟨k0, k1, k2, k3, k4, k5, k6, k7, k8, k9⟩ := hW9; first | (go_simp; done) | (go_simp; with_reducible rfl))
          simp only [Act.put, List.getElem_toArray, List.getElem_cons_succ, List.getElem_cons_zero, List.setIfInBounds_toArray, List.set_cons_zero, List.set_cons_succ]
          refine goes_take (i := 10) (v := ?gv19) rfl (by kernel_rfl) (by kernel_rfl) (by kernel_rfl) (by kernel_rfl) (fun _ _ _ h => h) (Or.inl ⟨by rfl, ?gy19⟩) (by assumption) ?gr19
          case gy19 => (intro W9 hW9; obtain ⟨k0, k1, k2, k3, k4, k5, k6, k7, k8, k9⟩ := hW9; first | (go_simp; done) | (go_simp; with_reducible rfl))
          simp only [Act.put, List.getElem_toArray, List.getElem_cons_succ, List.getElem_cons_zero, List.setIfInBounds_toArray, List.set_cons_zero, List.set_cons_succ]
          refine goes_take (i := 11) (v := (.string (s.extract k s.size))) rfl (by kernel_rfl) (by kernel_rfl) (by kernel_rfl) (by kernel_rfl) (fun _ _ _ h => h) (Or.inl ⟨by rfl, ?gy20⟩) (by assumption) ?gr20
          case gy20 => (intro W9 hW9; obtain ⟨k0, k1, k2, k3, k4, k5, k6, k7, k8, k9⟩ := hW9; first | (go_simp; done) | (go_simp; with_reducible rfl))
          simp only [Act.put, List.getElem_toArray, List.getElem_cons_succ, List.getElem_cons_zero, List.setIfInBounds_toArray, List.set_cons_zero, List.set_cons_succ]
          refine goes_one (i := 12) (by kernel_rfl) rfl (fun K9 hK9 => ?_)
          rw [if_pos (by rfl)]
          go_simp
          refine (HC2.out w6' hb6').mono ?_
          rintro e w12' ⟨rfl, hb12⟩
          have hb12' := hb6'.trans (hb12.mono hb6'.size)
          obtain ⟨k0, k1, k2, k3, k4, k5, k6, k7, k8, k9⟩ := hHeld
          refine hK9.out _ _ (fun _ => ⟨cell_below hb12 k0, cell_below hb12 k1, cell_below hb12 k2, cell_below hb12 k3, cell_below hb12 k4, cell_below hb12 k5, cell_below hb12 k6, cell_below hb12 k7, cell_below hb12 k8, cell_below hb12 k9⟩) (fun hHeld => ?_)
          have hHeld := hHeld (by decide)
          clear hK9 K9 k0 k1 k2 k3 k4 k5 k6 k7 k8 k9
          refine goes_take (i := 13) (v := (.bool r2)) rfl (by kernel_rfl) (by kernel_rfl) (by kernel_rfl) (by kernel_rfl) (fun _ _ _ h => h) (Or.inl ⟨by rfl, ?gy21⟩) (by assumption) ?gr21
          case gy21 => (intro W9 hW9; obtain ⟨k0, k1, k2, k3, k4, k5, k6, k7, k8, k9⟩ := hW9; first | (go_simp; done) | (go_simp; with_reducible rfl))
          simp only [Act.put, List.getElem_toArray, List.getElem_cons_succ, List.getElem_cons_zero, List.setIfInBounds_toArray, List.set_cons_zero, List.set_cons_succ]
          refine goes_take (i := 14) (v := (.bool r2)) rfl (by kernel_rfl) (by kernel_rfl) (by kernel_rfl) (by kernel_rfl) (fun _ _ _ h => h) (Or.inl ⟨by rfl, ?gy22⟩) (by assumption) ?gr22
          case gy22 => (intro W9 hW9; obtain ⟨k0, k1, k2, k3, k4, k5, k6, k7, k8, k9⟩ := hW9; first | (go_simp; done) | (go_simp; with_reducible rfl))
          simp only [Act.put, List.getElem_toArray, List.getElem_cons_succ, List.getElem_cons_zero, List.setIfInBounds_toArray, List.set_cons_zero, List.set_cons_succ]
          refine goes_one (i := 15) (by kernel_rfl) rfl (fun K9 hK9 => ?_)
          go_simp
          refine hK9.out _ _ (fun h => absurd rfl h) (fun _ => ?_)
          clear hK9 K9 hHeld
          refine goes_done (by kernel_rfl) ?_ _
          go_wp2
          go_roundw
          case rel => exact ⟨k + 1, r2, num_succ k, rfl, by omega, HNX, Lib.hid hb12'⟩
          case measure => simp [intOf]; omega
      · have HNX : Hid (parted s x y (k + 1) = true) := Lib.hid (by rw [HS1.out]; simp)
        clear HPQ HS1
        go_upto_region 19 with fail
        refine region_goes 15 16 rfl (fun W => W.cell? ⟨mp, 0, none⟩ = some (.int .i64 cntp) ∧ W.cell? ⟨mp, 1, none⟩ = some (.slice aep Ep.length cep) ∧ W.cell? ⟨mp, 2, none⟩ = some (.slice aap Ap.length cap) ∧ W.cell? ⟨mp, 3, none⟩ = some (.int .i64 0) ∧ W.cell? ⟨mp, 4, none⟩ = some (.int .i64 1) ∧ W.cell? ⟨mq, 0, none⟩ = some (.int .i64 cntq) ∧ W.cell? ⟨mq, 1, none⟩ = some (.slice aeq Eq.length ceq) ∧ W.cell? ⟨mq, 2, none⟩ = some (.slice aaq Aq.length caq) ∧ W.cell? ⟨mq, 3, none⟩ = some (.int .i64 0) ∧ W.cell? ⟨mq, 4, none⟩ = some (.int .i64 1)) mixed ⟨p0, p1, p2, p3, p4, q0, q1, q2, q3, q4⟩ (fun hHeld => ?_)
        clear p0 p1 p2 p3 p4 q0 q1 q2 q3 q4
        refine goes_take (i := 0) (v := (.bool true)) rfl (by kernel_rfl) (by kernel_rfl) (by kernel_rfl) (by kernel_rfl) (fun _ _ _ h => h) (Or.inl ⟨by rfl, ?gy23⟩) (by assumption) ?gr23
        case gy23 => (intro W9 hW9; obtain ⟨k0, k1, k2, k3, k4, k5, k6, k7, k8, k9⟩ := hW9; first | (go_simp; done) | (go_simp; with_reducible rfl))
        simp only [Act.put, List.getElem_toArray, List.getElem_cons_succ, List.getElem_cons_zero, List.setIfInBounds_toArray, List.set_cons_zero, List.set_cons_succ]
        refine goes_take (i := 1) (v := (.bool true)) rfl (by kernel_rfl) (by kernel_rfl) (by kernel_rfl) (by kernel_rfl) (fun _ _ _ h => h) (Or.inl ⟨by rfl, ?gy24⟩) (by assumption) ?gr24
        case gy24 => (intro W9 hW9; obtain ⟨k0, k1, k2, k3, k4, k5, k6, k7, k8, k9⟩ := hW9; first | (go_simp; done) | (go_simp; with_reducible rfl))
        simp only [Act.put, List.getElem_toArray, List.getElem_cons_succ, List.getElem_cons_zero, List.setIfInBounds_toArray, List.set_cons_zero, List.set_cons_succ]
        refine goes_take (i := 2) (v := undef) rfl (by kernel_rfl) (by kernel_rfl) (by kernel_rfl) (by kernel_rfl) (fun _ _ _ h => h) (Or.inr ⟨by rfl, rfl⟩) (by assumption) ?_
        simp only [Act.put, List.getElem_toArray, List.getElem_cons_succ, List.getElem_cons_zero, List.setIfInBounds_toArray, List.set_cons_zero, List.set_cons_succ]
        refine goes_take (i := 3) (v := undef) rfl (by kernel_rfl) (by kernel_rfl) (by kernel_rfl) (by kernel_rfl) (fun _ _ _ h => h) (Or.inr ⟨by rfl, rfl⟩) (by assumption) ?_
        simp only [Act.put, List.getElem_toArray, List.getElem_cons_succ, List.getElem_cons_zero, List.setIfInBounds_toArray, List.set_cons_zero, List.set_cons_succ]
        refine goes_take (i := 4) (v := undef) rfl (by kernel_rfl) (by kernel_rfl) (by kernel_rfl) (by kernel_rfl) (fun _ _ _ h => h) (Or.inr ⟨by rfl, rfl⟩) (by assumption) ?_
        simp only [Act.put, List.getElem_toArray, List.getElem_cons_succ, List.getElem_cons_zero, List.setIfInBounds_toArray, List.set_cons_zero, List.set_cons_succ]
        refine goes_take (i := 5) (v := undef) rfl (by kernel_rfl) (by kernel_rfl) (by kernel_rfl) (by kernel_rfl) (fun _ _ _ h => h) (Or.inr ⟨by rfl, rfl⟩) (by assumption) ?_
        simp only [Act.put, List.getElem_toArray, List.getElem_cons_succ, List.getElem_cons_zero, List.setIfInBounds_toArray, List.set_cons_zero, List.set_cons_succ]
        refine goes_take (i := 6) (v := undef) rfl (by kernel_rfl) (by kernel_rfl) (by kernel_rfl) (by kernel_rfl) (fun _ _ _ h => h) (Or.inr ⟨by rfl, rfl⟩) (by assumption) ?_
        simp only [Act.put, List.getElem_toArray, List.getElem_cons_succ, List.getElem_cons_zero, List.setIfInBounds_toArray, List.set_cons_zero, List.set_cons_succ]
        refine goes_take (i := 7) (v := undef) rfl (by kernel_rfl) (by kernel_rfl) (by kernel_rfl) (by kernel_rfl) (fun _ _ _ h => h) (Or.inr ⟨by rfl, rfl⟩) (by assumption) ?_
        simp only [Act.put, List.getElem_toArray, List.getElem_cons_succ, List.getElem_cons_zero, List.setIfInBounds_toArray, List.set_cons_zero, List.set_cons_succ]
        refine goes_take (i := 8) (v := undef) rfl (by kernel_rfl) (by kernel_rfl) (by kernel_rfl) (by kernel_rfl) (fun _ _ _ h => h) (Or.inr ⟨by rfl, rfl⟩) (by assumption) ?_
        simp only [Act.put, List.getElem_toArray, List.getElem_cons_succ, List.getElem_cons_zero, List.setIfInBounds_toArray, List.set_cons_zero, List.set_cons_succ]
        refine goes_take (i := 9) (v := undef) rfl (by kernel_rfl) (by kernel_rfl) (by kernel_rfl) (by kernel_rfl) (fun _ _ _ h => h) (Or.inr ⟨by rfl, rfl⟩) (by assumption) ?_
        simp only [Act.put, List.getElem_toArray, List.getElem_cons_succ, List.getElem_cons_zero, List.setIfInBounds_toArray, List.set_cons_zero, List.set_cons_succ]
        refine goes_take (i := 10) (v := undef) rfl (by kernel_rfl) (by kernel_rfl) (by kernel_rfl) (by kernel_rfl) (fun _ _ _ h => h) (Or.inr ⟨by rfl, rfl⟩) (by assumption) ?_
        simp only [Act.put, List.getElem_toArray, List.getElem_cons_succ, List.getElem_cons_zero, List.setIfInBounds_toArray, List.set_cons_zero, List.set_cons_succ]
        refine goes_take (i := 11) (v := undef) rfl (by kernel_rfl) (by kernel_rfl) (by kernel_rfl) (by kernel_rfl) (fun _ _ _ h => h) (Or.inr ⟨by rfl, rfl⟩) (by assumption) ?_
        simp only [Act.put, List.getElem_toArray, List.getElem_cons_succ, List.getElem_cons_zero, List.setIfInBounds_toArray, List.set_cons_zero, List.set_cons_succ]
        refine goes_take (i := 12) (v := undef) rfl (by kernel_rfl) (by kernel_rfl) (by kernel_rfl) (by kernel_rfl) (fun _ _ _ h => h) (Or.inr ⟨by rfl, rfl⟩) (by assumption) ?_
        simp only [Act.put, List.getElem_toArray, List.getElem_cons_succ, List.getElem_cons_zero, List.setIfInBounds_toArray, List.set_cons_zero, List.set_cons_succ]
        refine goes_take (i := 13) (v := undef) rfl (by kernel_rfl) (by kernel_rfl) (by kernel_rfl) (by kernel_rfl) (fun _ _ _ h => h) (Or.inr ⟨by rfl, rfl⟩) (by assumption) ?_
        simp only [Act.put, List.getElem_toArray, List.getElem_cons_succ, List.getElem_cons_zero, List.setIfInBounds_toArray, List.set_cons_zero, List.set_cons_succ]
        refine goes_take (i := 14) (v := (.bool true)) rfl (by kernel_rfl) (by kernel_rfl) (by kernel_rfl) (by kernel_rfl) (fun _ _ _ h => h) (Or.inl ⟨by rfl, ?gy25⟩) (by assumption) ?gr25
        case gy25 => (intro W9 hW9; obtain ⟨k0, k1, k2, k3, k4, k5, k6, k7, k8, k9⟩ := hW9; first | (go_simp; done) | (go_simp; with_reducible rfl))
        simp only [Act.put, List.getElem_toArray, List.getElem_cons_succ, List.getElem_cons_zero, List.setIfInBounds_toArray, List.set_cons_zero, List.set_cons_succ]
        refine goes_one (i := 15) (by kernel_rfl) rfl (fun K9 hK9 => ?_)
        go_simp
        refine hK9.out _ _ (fun h => absurd rfl h) (fun _ => ?_)
        clear hK9 K9 hHeld
        refine goes_done (by kernel_rfl) ?_ _
        go_wp2
        go_roundw
        case rel => exact ⟨k + 1, true, num_succ k, rfl, by omega, HNX, Lib.hid hbd⟩
        case measure => simp [intOf]; omega
    · have hdd : decide ((k : Int) ≤ s.size) = false := decide_eq_false (by omega)
      have hdn : decide (k ≤ s.size) = false := decide_eq_false hlt
      obtain rfl : k = s.size + 1 := by omega
      rw [HALL.out] at HPQ
      obtain ⟨c0, c1, c2, c3, c4⟩ := HNC.out wr.drew hbd
      obtain ⟨d0, d1, d2, d3, d4⟩ := HND.out wr.drew hbd
      have HCC := Lib.hid (HWC.out wr.drew hbd s (by omega))
      rw [HPQ.out] at HCC
      have HCD := Lib.hid (fun W hW => HWD.out W hW s (by omega))
      rw [HALT.out] at HCD
      have HCP := Lib.hid (fun W hW => HWP.out W hW s (by omega))
      have HCQ := Lib.hid (fun W hW => HWQ.out W hW s (by omega))
      clear hlt hk HPQ HALL HALT HSUC HWC HWD HWP HWQ
      cases hr1 : MB s x
      · rw [hr1, Bool.false_or] at HCD
        rw [hr1] at HCP
        generalize MB s y = r2 at *
        clear hr1
        go_upto_region 20 with fail
        refine region_goes 19 20 rfl (fun W => W.cell? ⟨mp, 0, none⟩ = some (.int .i64 cntp) ∧ W.cell? ⟨mp, 1, none⟩ = some (.slice aep Ep.length cep) ∧ W.cell? ⟨mp, 2, none⟩ = some (.slice aap Ap.length cap) ∧ W.cell? ⟨mp, 3, none⟩ = some (.int .i64 0) ∧ W.cell? ⟨mp, 4, none⟩ = some (.int .i64 1) ∧ W.cell? ⟨mq, 0, none⟩ = some (.int .i64 cntq) ∧ W.cell? ⟨mq, 1, none⟩ = some (.slice aeq Eq.length ceq) ∧ W.cell? ⟨mq, 2, none⟩ = some (.slice aaq Aq.length caq) ∧ W.cell? ⟨mq, 3, none⟩ = some (.int .i64 0) ∧ W.cell? ⟨mq, 4, none⟩ = some (.int .i64 1) ∧ W.cell? ⟨mc, 0, none⟩ = some (.int .i64 cntc) ∧ W.cell? ⟨mc, 1, none⟩ = some (.slice aec Ec.length cec) ∧ W.cell? ⟨mc, 2, none⟩ = some (.slice aac Ac.length cac) ∧ W.cell? ⟨mc, 3, none⟩ = some (.int .i64 0) ∧ W.cell? ⟨mc, 4, none⟩ = some (.int .i64 1) ∧ W.cell? ⟨md, 0, none⟩ = some (.int .i64 cntd) ∧ W.cell? ⟨md, 1, none⟩ = some (.slice aed Ed.length ced) ∧ W.cell? ⟨md, 2, none⟩ = some (.slice aad Ad.length cad) ∧ W.cell? ⟨md, 3, none⟩ = some (.int .i64 0) ∧ W.cell? ⟨md, 4, none⟩ = some (.int .i64 1)) mixed ⟨p0, p1, p2, p3, p4, q0, q1, q2, q3, q4, c0, c1, c2, c3, c4, d0, d1, d2, d3, d4⟩ (fun hHeld => ?_)
        clear p0 p1 p2 p3 p4 q0 q1 q2 q3 q4 c0 c1 c2 c3 c4 d0 d1 d2 d3 d4
        refine goes_take (i := 0) (v := ?gv26) rfl (by kernel_rfl) (by kernel_rfl) (by kernel_rfl) (by kernel_rfl) (fun _ _ _ h => h) (Or.inl ⟨by rfl, ?gy26⟩) (by assumption) ?gr26
        case gy26 => (intro W9 hW9; obtain ⟨k0, k1, k2, k3, k4, k5, k6, k7, k8, k9, k10, k11, k12, k13, k14, k15, k16, k17, k18, k19⟩ := hW9; first | (go_simp; done) | (go_simp; with_reducible rfl))
        simp only [Act.put, List.getElem_toArray, List.getElem_cons_succ, List.getElem_cons_zero, List.setIfInBounds_toArray, List.set_cons_zero, List.set_cons_succ]
        refine goes_take (i := 1) (v := ?gv27) rfl (by kernel_rfl) (by kernel_rfl) (by kernel_rfl) (by kernel_rfl) (fun _ _ _ h => h) (Or.inl ⟨by rfl, ?gy27⟩) (by assumption) ?gr27
        case gy27 => (intro W9 hW9; obtain ⟨k0, k1, k2, k3, k4, k5, k6, k7, k8, k9, k10, k11, k12, k13, k14, k15, k16, k17, k18, k19⟩ := hW9; first | (go_simp; done) | (go_simp; with_reducible rfl))
        simp only [Act.put, List.getElem_toArray, List.getElem_cons_succ, List.getElem_cons_zero, List.setIfInBounds_toArray, List.set_cons_zero, List.set_cons_succ]
        refine goes_take (i := 3) (v := ?gv28) rfl (by kernel_rfl) (by kernel_rfl) (by kernel_rfl) (by kernel_rfl) (fun _ _ _ h => h) (Or.inl ⟨by rfl, ?gy28⟩) (by assumption) ?gr28
        case gy28 => (intro W9 hW9; obtain ⟨k0, k1, k2, k3, k4, k5, k6, k7, k8, k9, k10, k11, k12, k13, k14, k15, k16, k17, k18, k19⟩ := hW9; first | (go_simp; done) | (go_simp; with_reducible rfl))
        simp only [Act.put, List.getElem_toArray, List.getElem_cons_succ, List.getElem_cons_zero, List.setIfInBounds_toArray, List.set_cons_zero, List.set_cons_succ]
        refine goes_one (i := 2) (by kernel_rfl) rfl (fun K9 hK9 => ?_)
        go_simp
        refine (HCC.out).mono ?_
        rintro e w20 ⟨rfl, hb20⟩
        have hb20' := hbd.trans (hb20.mono hbd.size)
        obtain ⟨k0, k1, k2, k3, k4, k5, k6, k7, k8, k9, k10, k11, k12, k13, k14, k15, k16, k17, k18, k19⟩ := hHeld
        refine hK9.out _ _ (fun _ => ⟨cell_below hb20 k0, cell_below hb20 k1, cell_below hb20 k2, cell_below hb20 k3, cell_below hb20 k4, cell_below hb20 k5, cell_below hb20 k6, cell_below hb20 k7, cell_below hb20 k8, cell_below hb20 k9, cell_below hb20 k10, cell_below hb20 k11, cell_below hb20 k12, cell_below hb20 k13, cell_below hb20 k14, cell_below hb20 k15, cell_below hb20 k16, cell_below hb20 k17, cell_below hb20 k18, cell_below hb20 k19⟩) (fun hHeld => ?_)
        have hHeld := hHeld (by decide)
        clear hK9 K9 k0 k1 k2 k3 k4 k5 k6 k7 k8 k9 k10 k11 k12 k13 k14 k15 k16 k17 k18 k19
        refine goes_take (i := 4) (v := (.bool true)) rfl (by kernel_rfl) (by kernel_rfl) (by kernel_rfl) (by kernel_rfl) (fun _ _ _ h => h) (Or.inl ⟨by rfl, ?gy29⟩) (by assumption) ?gr29
        case gy29 => (intro W9 hW9; obtain ⟨k0, k1, k2, k3, k4, k5, k6, k7, k8, k9, k10, k11, k12, k13, k14, k15, k16, k17, k18, k19⟩ := hW9; first | (go_simp; done) | (go_simp; with_reducible rfl))
        simp only [Act.put, List.getElem_toArray, List.getElem_cons_succ, List.getElem_cons_zero, List.setIfInBounds_toArray, List.set_cons_zero, List.set_cons_succ]
        refine goes_take (i := 5) (v := (.bool true)) rfl (by kernel_rfl) (by kernel_rfl) (by kernel_rfl) (by kernel_rfl) (fun _ _ _ h => h) (Or.inl ⟨by rfl, ?gy30⟩) (by assumption) ?gr30
        case gy30 => (intro W9 hW9; obtain ⟨k0, k1, k2, k3, k4, k5, k6, k7, k8, k9, k10, k11, k12, k13, k14, k15, k16, k17, k18, k19⟩ := hW9; first | (go_simp; done) | (go_simp; with_reducible rfl))
        simp only [Act.put, List.getElem_toArray, List.getElem_cons_succ, List.getElem_cons_zero, List.setIfInBounds_toArray, List.set_cons_zero, List.set_cons_succ]
        refine goes_take (i := 6) (v := ?gv31) rfl (by kernel_rfl) (by kernel_rfl) (by kernel_rfl) (by kernel_rfl) (fun _ _ _ h => h) (Or.inl ⟨by rfl, ?gy31⟩) (by assumption) ?gr31
        case gy31 => (intro W9 hW9; obtain ⟨k0, k1, k2, k3, k4, k5, k6, k7, k8, k9, k10, k11, k12, k13, k14, k15, k16, k17, k18, k19⟩ := hW9; first | (go_simp; done) | (go_simp; with_reducible rfl))
        simp only [Act.put, List.getElem_toArray, List.getElem_cons_succ, List.getElem_cons_zero, List.setIfInBounds_toArray, List.set_cons_zero, List.set_cons_succ]
        refine goes_take (i := 7) (v := ?gv32) rfl (by kernel_rfl) (by kernel_rfl) (by kernel_rfl) (by kernel_rfl) (fun _ _ _ h => h) (Or.inl ⟨by rfl, ?gy32⟩) (by assumption) ?gr32
        case gy32 => (intro W9 hW9; obtain ⟨k0, k1, k2, k3, k4, k5, k6, k7, k8, k9, k10, k11, k12, k13, k14, k15, k16, k17, k18, k19⟩ := hW9; first | (go_simp; done) | (go_simp; with_reducible rfl))
        simp only [Act.put, List.getElem_toArray, List.getElem_cons_succ, List.getElem_cons_zero, List.setIfInBounds_toArray, List.set_cons_zero, List.set_cons_succ]
        refine goes_take (i := 9) (v := ?gv33) rfl (by kernel_rfl) (by kernel_rfl) (by kernel_rfl) (by kernel_rfl) (fun _ _ _ h => h) (Or.inl ⟨by rfl, ?gy33⟩) (by assumption) ?gr33
        case gy33 => (intro W9 hW9; obtain ⟨k0, k1, k2, k3, k4, k5, k6, k7, k8, k9, k10, k11, k12, k13, k14, k15, k16, k17, k18, k19⟩ := hW9; first | (go_simp; done) | (go_simp; with_reducible rfl))
        simp only [Act.put, List.getElem_toArray, List.getElem_cons_succ, List.getElem_cons_zero, List.setIfInBounds_toArray, List.set_cons_zero, List.set_cons_succ]
        refine goes_take (i := 10) (v := ?gv34) rfl (by kernel_rfl) (by kernel_rfl) (by kernel_rfl) (by kernel_rfl) (fun _ _ _ h => h) (Or.inl ⟨by rfl, ?gy34⟩) (by assumption) ?gr34
        case gy34 => (intro W9 hW9; obtain ⟨k0, k1, k2, k3, k4, k5, k6, k7, k8, k9, k10, k11, k12, k13, k14, k15, k16, k17, k18, k19⟩ := hW9; first | (go_simp; done) | (go_simp; with_reducible rfl))
        simp only [Act.put, List.getElem_toArray, List.getElem_cons_succ, List.getElem_cons_zero, List.setIfInBounds_toArray, List.set_cons_zero, List.set_cons_succ]
        refine goes_one (i := 8) (by kernel_rfl) rfl (fun K9 hK9 => ?_)
        rw [if_pos (by rfl)]
        go_simp
        refine (HCD.out w20 hb20').mono ?_
        rintro e w21 ⟨rfl, hb21⟩
        have hb21' := hb20'.trans (hb21.mono hb20'.size)
        obtain ⟨k0, k1, k2, k3, k4, k5, k6, k7, k8, k9, k10, k11, k12, k13, k14, k15, k16, k17, k18, k19⟩ := hHeld
        refine hK9.out _ _ (fun _ => ⟨cell_below hb21 k0, cell_below hb21 k1, cell_below hb21 k2, cell_below hb21 k3, cell_below hb21 k4, cell_below hb21 k5, cell_below hb21 k6, cell_below hb21 k7, cell_below hb21 k8, cell_below hb21 k9, cell_below hb21 k10, cell_below hb21 k11, cell_below hb21 k12, cell_below hb21 k13, cell_below hb21 k14, cell_below hb21 k15, cell_below hb21 k16, cell_below hb21 k17, cell_below hb21 k18, cell_below hb21 k19⟩) (fun hHeld => ?_)
        have hHeld := hHeld (by decide)
        clear hK9 K9 k0 k1 k2 k3 k4 k5 k6 k7 k8 k9 k10 k11 k12 k13 k14 k15 k16 k17 k18 k19
        refine goes_one (i := 11) (by kernel_rfl) rfl (fun K9 hK9 => ?_)
        rw [if_pos (by rfl)]
        go_simp
        refine (HCP.out w21 hb21').mono ?_
        rintro e w22 ⟨rfl, hb22⟩
        have hb22' := hb21'.trans (hb22.mono hb21'.size)
        obtain ⟨k0, k1, k2, k3, k4, k5, k6, k7, k8, k9, k10, k11, k12, k13, k14, k15, k16, k17, k18, k19⟩ := hHeld
        refine hK9.out _ _ (fun _ => ⟨cell_below hb22 k0, cell_below hb22 k1, cell_below hb22 k2, cell_below hb22 k3, cell_below hb22 k4, cell_below hb22 k5, cell_below hb22 k6, cell_below hb22 k7, cell_below hb22 k8, cell_below hb22 k9, cell_below hb22 k10, cell_below hb22 k11, cell_below hb22 k12, cell_below hb22 k13, cell_below hb22 k14, cell_below hb22 k15, cell_below hb22 k16, cell_below hb22 k17, cell_below hb22 k18, cell_below hb22 k19⟩) (fun hHeld => ?_)
        have hHeld := hHeld (by decide)
        clear hK9 K9 k0 k1 k2 k3 k4 k5 k6 k7 k8 k9 k10 k11 k12 k13 k14 k15 k16 k17 k18 k19
        refine goes_take (i := 12) (v := (.bool false)) rfl (by kernel_rfl) (by kernel_rfl) (by kernel_rfl) (by kernel_rfl) (fun _ _ _ h => h) (Or.inl ⟨by rfl, ?gy35⟩) (by assumption) ?gr35
        case gy35 => (intro W9 hW9; obtain ⟨k0, k1, k2, k3, k4, k5, k6, k7, k8, k9, k10, k11, k12, k13, k14, k15, k16, k17, k18, k19⟩ := hW9; first | (go_simp; done) | (go_simp; with_reducible rfl))
        simp only [Act.put, List.getElem_toArray, List.getElem_cons_succ, List.getElem_cons_zero, List.setIfInBounds_toArray, List.set_cons_zero, List.set_cons_succ]
        refine goes_take (i := 13) (v := ?gv36) rfl (by kernel_rfl) (by kernel_rfl) (by kernel_rfl) (by kernel_rfl) (fun _ _ _ h => h) (Or.inl ⟨by rfl, ?gy36⟩) (by assumption) ?gr36
        case gy36 => (intro W9 hW9; obtain ⟨k0, k1, k2, k3, k4, k5, k6, k7, k8, k9, k10, k11, k12, k13, k14, k15, k16, k17, k18, k19⟩ := hW9; first | (go_simp; done) | (go_simp; with_reducible rfl))
        simp only [Act.put, List.getElem_toArray, List.getElem_cons_succ, List.getElem_cons_zero, List.setIfInBounds_toArray, List.set_cons_zero, List.set_cons_succ]
        refine goes_take (i := 14) (v := ?gv37) rfl (by kernel_rfl) (by kernel_rfl) (by kernel_rfl) (by kernel_rfl) (fun _ _ _ h => h) (Or.inl ⟨by rfl, ?gy37⟩) (by assumption) ?gr37
        case gy37 => (intro W9 hW9; obtain ⟨k0, k1, k2, k3, k4, k5, k6, k7, k8, k9, k10, k11, k12, k13, k14, k15, k16, k17, k18, k19⟩ := hW9; first | (go_simp; done) | (go_simp; with_reducible rfl))
        simp only [Act.put, List.getElem_toArray, List.getElem_cons_succ, List.getElem_cons_zero, List.setIfInBounds_toArray, List.set_cons_zero, List.set_cons_succ]
        refine goes_one (i := 15) (by kernel_rfl) rfl (fun K9 hK9 => ?_)
        rw [if_pos (by rfl)]
        go_simp
        refine (HCQ.out w22 hb22').mono ?_
        rintro e w23 ⟨rfl, hb23⟩
        have hbf := hb22'.trans (hb23.mono hb22'.size)
        obtain ⟨k0, k1, k2, k3, k4, k5, k6, k7, k8, k9, k10, k11, k12, k13, k14, k15, k16, k17, k18, k19⟩ := hHeld
        refine hK9.out _ _ (fun _ => ⟨cell_below hb23 k0, cell_below hb23 k1, cell_below hb23 k2, cell_below hb23 k3, cell_below hb23 k4, cell_below hb23 k5, cell_below hb23 k6, cell_below hb23 k7, cell_below hb23 k8, cell_below hb23 k9, cell_below hb23 k10, cell_below hb23 k11, cell_below hb23 k12, cell_below hb23 k13, cell_below hb23 k14, cell_below hb23 k15, cell_below hb23 k16, cell_below hb23 k17, cell_below hb23 k18, cell_below hb23 k19⟩) (fun hHeld => ?_)
        have hHeld := hHeld (by decide)
        clear hK9 K9 k0 k1 k2 k3 k4 k5 k6 k7 k8 k9 k10 k11 k12 k13 k14 k15 k16 k17 k18 k19
        refine goes_take (i := 16) (v := (.bool r2)) rfl (by kernel_rfl) (by kernel_rfl) (by kernel_rfl) (by kernel_rfl) (fun _ _ _ h => h) (Or.inl ⟨by rfl, ?gy38⟩) (by assumption) ?gr38
        case gy38 => (intro W9 hW9; obtain ⟨k0, k1, k2, k3, k4, k5, k6, k7, k8, k9, k10, k11, k12, k13, k14, k15, k16, k17, k18, k19⟩ := hW9; first | (go_simp; done) | (go_simp; with_reducible rfl))
        simp only [Act.put, List.getElem_toArray, List.getElem_cons_succ, List.getElem_cons_zero, List.setIfInBounds_toArray, List.set_cons_zero, List.set_cons_succ]
        refine goes_take (i := 17) (v := (.bool true)) rfl (by kernel_rfl) (by kernel_rfl) (by kernel_rfl) (by kernel_rfl) (fun _ _ _ h => h) (Or.inl ⟨by rfl, ?gy39⟩) (by assumption) ?gr39
        case gy39 => (intro W9 hW9; obtain ⟨k0, k1, k2, k3, k4, k5, k6, k7, k8, k9, k10, k11, k12, k13, k14, k15, k16, k17, k18, k19⟩ := hW9; first | (go_simp; done) | (go_simp; with_reducible rfl))
        simp only [Act.put, List.getElem_toArray, List.getElem_cons_succ, List.getElem_cons_zero, List.setIfInBounds_toArray, List.set_cons_zero, List.set_cons_succ]
        refine goes_take (i := 18) (v := (.bool true)) rfl (by kernel_rfl) (by kernel_rfl) (by kernel_rfl) (by kernel_rfl) (fun _ _ _ h => h) (Or.inl ⟨by rfl, ?gy40⟩) (by assumption) ?gr40
        case gy40 => (intro W9 hW9; obtain ⟨k0, k1, k2, k3, k4, k5, k6, k7, k8, k9, k10, k11, k12, k13, k14, k15, k16, k17, k18, k19⟩ := hW9; first | (go_simp; done) | (go_simp; with_reducible rfl))
        simp only [Act.put, List.getElem_toArray, List.getElem_cons_succ, List.getElem_cons_zero, List.setIfInBounds_toArray, List.set_cons_zero, List.set_cons_succ]
        refine goes_one (i := 19) (by kernel_rfl) rfl (fun K9 hK9 => ?_)
        go_simp
        refine hK9.out _ _ (fun h => absurd rfl h) (fun _ => ?_)
        clear hK9 K9 hHeld
        refine goes_done (by kernel_rfl) ?_ _
        go_wp2
        go_ret
        exact ⟨rfl, HW16.out.trans (hbf.mono HW16.out.size)⟩
      · rw [hr1, Bool.true_or] at HCD
        rw [hr1] at HCP
        clear hr1
        go_upto_region 20 with fail
        refine region_goes 19 20 rfl (fun W => W.cell? ⟨mp, 0, none⟩ = some (.int .i64 cntp) ∧ W.cell? ⟨mp, 1, none⟩ = some (.slice aep Ep.length cep) ∧ W.cell? ⟨mp, 2, none⟩ = some (.slice aap Ap.length cap) ∧ W.cell? ⟨mp, 3, none⟩ = some (.int .i64 0) ∧ W.cell? ⟨mp, 4, none⟩ = some (.int .i64 1) ∧ W.cell? ⟨mq, 0, none⟩ = some (.int .i64 cntq) ∧ W.cell? ⟨mq, 1, none⟩ = some (.slice aeq Eq.length ceq) ∧ W.cell? ⟨mq, 2, none⟩ = some (.slice aaq Aq.length caq) ∧ W.cell? ⟨mq, 3, none⟩ = some (.int .i64 0) ∧ W.cell? ⟨mq, 4, none⟩ = some (.int .i64 1) ∧ W.cell? ⟨mc, 0, none⟩ = some (.int .i64 cntc) ∧ W.cell? ⟨mc, 1, none⟩ = some (.slice aec Ec.length cec) ∧ W.cell? ⟨mc, 2, none⟩ = some (.slice aac Ac.length cac) ∧ W.cell? ⟨mc, 3, none⟩ = some (.int .i64 0) ∧ W.cell? ⟨mc, 4, none⟩ = some (.int .i64 1) ∧ W.cell? ⟨md, 0, none⟩ = some (.int .i64 cntd) ∧ W.cell? ⟨md, 1, none⟩ = some (.slice aed Ed.length ced) ∧ W.cell? ⟨md, 2, none⟩ = some (.slice aad Ad.length cad) ∧ W.cell? ⟨md, 3, none⟩ = some (.int .i64 0) ∧ W.cell? ⟨md, 4, none⟩ = some (.int .i64 1)) mixed ⟨p0, p1, p2, p3, p4, q0, q1, q2, q3, q4, c0, c1, c2, c3, c4, d0, d1, d2, d3, d4⟩ (fun hHeld => ?_)
        clear p0 p1 p2 p3 p4 q0 q1 q2 q3 q4 c0 c1 c2 c3 c4 d0 d1 d2 d3 d4
        refine goes_take (i := 0) (v := ?gv41) rfl (by kernel_rfl) (by kernel_rfl) (by kernel_rfl) (by kernel_rfl) (fun _ _ _ h => h) (Or.inl ⟨by rfl, ?gy41⟩) (by assumption) ?gr41
        case gy41 => (intro W9 hW9; obtain ⟨k0, k1, k2, k3, k4, k5, k6, k7, k8, k9, k10, k11, k12, k13, k14, k15, k16, k17, k18, k19⟩ := hW9; first | (go_simp; done) | (go_simp; with_reducible rfl))
        simp only [Act.put, List.getElem_toArray, List.getElem_cons_succ, List.getElem_cons_zero, List.setIfInBounds_toArray, List.set_cons_zero, List.set_cons_succ]
        refine goes_take (i := 1) (v := ?gv42) rfl (by kernel_rfl) (by kernel_rfl) (by kernel_rfl) (by kernel_rfl) (fun _ _ _ h => h) (Or.inl ⟨by rfl, ?gy42⟩) (by assumption) ?gr42
        case gy42 => (intro W9 hW9; obtain ⟨k0, k1, k2, k3, k4, k5, k6, k7, k8, k9, k10, k11, k12, k13, k14, k15, k16, k17, k18, k19⟩ := hW9; first | (go_simp; done) | (go_simp; with_reducible rfl))
        simp only [Act.put, List.getElem_toArray, List.getElem_cons_succ, List.getElem_cons_zero, List.setIfInBounds_toArray, List.set_cons_zero, List.set_cons_succ]
        refine goes_take (i := 3) (v := ?gv43) rfl (by kernel_rfl) (by kernel_rfl) (by kernel_rfl) (by kernel_rfl) (fun _ _ _ h => h) (Or.inl ⟨by rfl, ?gy43⟩) (by assumption) ?gr43
        case gy43 => (intro W9 hW9; obtain ⟨k0, k1, k2, k3, k4, k5, k6, k7, k8, k9, k10, k11, k12, k13, k14, k15, k16, k17, k18, k19⟩ := hW9; first | (go_simp; done) | (go_simp; with_reducible rfl))
        simp only [Act.put, List.getElem_toArray, List.getElem_cons_succ, List.getElem_cons_zero, List.setIfInBounds_toArray, List.set_cons_zero, List.set_cons_succ]
        refine goes_one (i := 2) (by kernel_rfl) rfl (fun K9 hK9 => ?_)
        go_simp
        refine (HCC.out).mono ?_
        rintro e w20 ⟨rfl, hb20⟩
        have hb20' := hbd.trans (hb20.mono hbd.size)
        obtain ⟨k0, k1, k2, k3, k4, k5, k6, k7, k8, k9, k10, k11, k12, k13, k14, k15, k16, k17, k18, k19⟩ := hHeld
        refine hK9.out _ _ (fun _ => ⟨cell_below hb20 k0, cell_below hb20 k1, cell_below hb20 k2, cell_below hb20 k3, cell_below hb20 k4, cell_below hb20 k5, cell_below hb20 k6, cell_below hb20 k7, cell_below hb20 k8, cell_below hb20 k9, cell_below hb20 k10, cell_below hb20 k11, cell_below hb20 k12, cell_below hb20 k13, cell_below hb20 k14, cell_below hb20 k15, cell_below hb20 k16, cell_below hb20 k17, cell_below hb20 k18, cell_below hb20 k19⟩) (fun hHeld => ?_)
        have hHeld := hHeld (by decide)
        clear hK9 K9 k0 k1 k2 k3 k4 k5 k6 k7 k8 k9 k10 k11 k12 k13 k14 k15 k16 k17 k18 k19
        refine goes_take (i := 4) (v := (.bool true)) rfl (by kernel_rfl) (by kernel_rfl) (by kernel_rfl) (by kernel_rfl) (fun _ _ _ h => h) (Or.inl ⟨by rfl, ?gy44⟩) (by assumption) ?gr44
        case gy44 => (intro W9 hW9; obtain ⟨k0, k1, k2, k3, k4, k5, k6, k7, k8, k9, k10, k11, k12, k13, k14, k15, k16, k17, k18, k19⟩ := hW9; first | (go_simp; done) | (go_simp; with_reducible rfl))
        simp only [Act.put, List.getElem_toArray, List.getElem_cons_succ, List.getElem_cons_zero, List.setIfInBounds_toArray, List.set_cons_zero, List.set_cons_succ]
        refine goes_take (i := 5) (v := (.bool true)) rfl (by kernel_rfl) (by kernel_rfl) (by kernel_rfl) (by kernel_rfl) (fun _ _ _ h => h) (Or.inl ⟨by rfl, ?gy45⟩) (by assumption) ?gr45
        case gy45 => (intro W9 hW9; obtain ⟨k0, k1, k2, k3, k4, k5, k6, k7, k8, k9, k10, k11, k12, k13, k14, k15, k16, k17, k18, k19⟩ := hW9; first | (go_simp; done) | (go_simp; with_reducible rfl))
        simp only [Act.put, List.getElem_toArray, List.getElem_cons_succ, List.getElem_cons_zero, List.setIfInBounds_toArray, List.set_cons_zero, List.set_cons_succ]
        refine goes_take (i := 6) (v := ?gv46) rfl (by kernel_rfl) (by kernel_rfl) (by kernel_rfl) (by kernel_rfl) (fun _ _ _ h => h) (Or.inl ⟨by rfl, ?gy46⟩) (by assumption) ?gr46
        case gy46 => (intro W9 hW9; obtain ⟨k0, k1, k2, k3, k4, k5, k6, k7, k8, k9, k10, k11, k12, k13, k14, k15, k16, k17, k18, k19⟩ := hW9; first | (go_simp; done) | (go_simp; with_reducible rfl))
        simp only [Act.put, List.getElem_toArray, List.getElem_cons_succ, List.getElem_cons_zero, List.setIfInBounds_toArray, List.set_cons_zero, List.set_cons_succ]
        refine goes_take (i := 7) (v := ?gv47) rfl (by kernel_rfl) (by kernel_rfl) (by kernel_rfl) (by kernel_rfl) (fun _ _ _ h => h) (Or.inl ⟨by rfl, ?gy47⟩) (by assumption) ?gr47
        case gy47 => (intro W9 hW9; obtain ⟨k0, k1, k2, k3, k4, k5, k6, k7, k8, k9, k10, k11, k12, k13, k14, k15, k16, k17, k18, k19⟩ := hW9; first | (go_simp; done) | (go_simp; with_reducible rfl))
        simp only [Act.put, List.getElem_toArray, List.getElem_cons_succ, List.getElem_cons_zero, List.setIfInBounds_toArray, List.set_cons_zero, List.set_cons_succ]
        refine goes_take (i := 9) (v := ?gv48) rfl (by kernel_rfl) (by kernel_rfl) (by kernel_rfl) (by kernel_rfl) (fun _ _ _ h => h) (Or.inl ⟨by rfl, ?gy48⟩) (by assumption) ?gr48
        case gy48 => (intro W9 hW9; obtain ⟨k0, k1, k2, k3, k4, k5, k6, k7, k8, k9, k10, k11, k12, k13, k14, k15, k16, k17, k18, k19⟩ := hW9; first | (go_simp; done) | (go_simp; with_reducible rfl))
        simp only [Act.put, List.getElem_toArray, List.getElem_cons_succ, List.getElem_cons_zero, List.setIfInBounds_toArray, List.set_cons_zero, List.set_cons_succ]
        refine goes_take (i := 10) (v := ?gv49) rfl (by kernel_rfl) (by kernel_rfl) (by kernel_rfl) (by kernel_rfl) (fun _ _ _ h => h) (Or.inl ⟨by rfl, ?gy49⟩) (by assumption) ?gr49
        case gy49 => (intro W9 hW9; obtain ⟨k0, k1, k2, k3, k4, k5, k6, k7, k8, k9, k10, k11, k12, k13, k14, k15, k16, k17, k18, k19⟩ := hW9; first | (go_simp; done) | (go_simp; with_reducible rfl))
        simp only [Act.put, List.getElem_toArray, List.getElem_cons_succ, List.getElem_cons_zero, List.setIfInBounds_toArray, List.set_cons_zero, List.set_cons_succ]
        refine goes_one (i := 8) (by kernel_rfl) rfl (fun K9 hK9 => ?_)
        rw [if_pos (by rfl)]
        go_simp
        refine (HCD.out w20 hb20').mono ?_
        rintro e w21 ⟨rfl, hb21⟩
        have hb21' := hb20'.trans (hb21.mono hb20'.size)
        obtain ⟨k0, k1, k2, k3, k4, k5, k6, k7, k8, k9, k10, k11, k12, k13, k14, k15, k16, k17, k18, k19⟩ := hHeld
        refine hK9.out _ _ (fun _ => ⟨cell_below hb21 k0, cell_below hb21 k1, cell_below hb21 k2, cell_below hb21 k3, cell_below hb21 k4, cell_below hb21 k5, cell_below hb21 k6, cell_below hb21 k7, cell_below hb21 k8, cell_below hb21 k9, cell_below hb21 k10, cell_below hb21 k11, cell_below hb21 k12, cell_below hb21 k13, cell_below hb21 k14, cell_below hb21 k15, cell_below hb21 k16, cell_below hb21 k17, cell_below hb21 k18, cell_below hb21 k19⟩) (fun hHeld => ?_)
        have hHeld := hHeld (by decide)
        clear hK9 K9 k0 k1 k2 k3 k4 k5 k6 k7 k8 k9 k10 k11 k12 k13 k14 k15 k16 k17 k18 k19
        refine goes_one (i := 11) (by kernel_rfl) rfl (fun K9 hK9 => ?_)
        rw [if_pos (by rfl)]
        go_simp
        refine (HCP.out w21 hb21').mono ?_
        rintro e w22 ⟨rfl, hb22⟩
        have hb22' := hb21'.trans (hb22.mono hb21'.size)
        obtain ⟨k0, k1, k2, k3, k4, k5, k6, k7, k8, k9, k10, k11, k12, k13, k14, k15, k16, k17, k18, k19⟩ := hHeld
        refine hK9.out _ _ (fun _ => ⟨cell_below hb22 k0, cell_below hb22 k1, cell_below hb22 k2, cell_below hb22 k3, cell_below hb22 k4, cell_below hb22 k5, cell_below hb22 k6, cell_below hb22 k7, cell_below hb22 k8, cell_below hb22 k9, cell_below hb22 k10, cell_below hb22 k11, cell_below hb22 k12, cell_below hb22 k13, cell_below hb22 k14, cell_below hb22 k15, cell_below hb22 k16, cell_below hb22 k17, cell_below hb22 k18, cell_below hb22 k19⟩) (fun hHeld => ?_)
        have hHeld := hHeld (by decide)
        clear hK9 K9 k0 k1 k2 k3 k4 k5 k6 k7 k8 k9 k10 k11 k12 k13 k14 k15 k16 k17 k18 k19
        refine goes_take (i := 12) (v := (.bool true)) rfl (by kernel_rfl) (by kernel_rfl) (by kernel_rfl) (by kernel_rfl) (fun _ _ _ h => h) (Or.inl ⟨by rfl, ?gy50⟩) (by assumption) ?gr50
        case gy50 => (intro W9 hW9; obtain ⟨k0, k1, k2, k3, k4, k5, k6, k7, k8, k9, k10, k11, k12, k13, k14, k15, k16, k17, k18, k19⟩ := hW9; first | (go_simp; done) | (go_simp; with_reducible rfl))
        simp only [Act.put, List.getElem_toArray, List.getElem_cons_succ, List.getElem_cons_zero, List.setIfInBounds_toArray, List.set_cons_zero, List.set_cons_succ]
        refine goes_take (i := 13) (v := undef) rfl (by kernel_rfl) (by kernel_rfl) (by kernel_rfl) (by kernel_rfl) (fun _ _ _ h => h) (Or.inr ⟨by rfl, rfl⟩) (by assumption) ?_
        simp only [Act.put, List.getElem_toArray, List.getElem_cons_succ, List.getElem_cons_zero, List.setIfInBounds_toArray, List.set_cons_zero, List.set_cons_succ]
        refine goes_take (i := 14) (v := undef) rfl (by kernel_rfl) (by kernel_rfl) (by kernel_rfl) (by kernel_rfl) (fun _ _ _ h => h) (Or.inr ⟨by rfl, rfl⟩) (by assumption) ?_
        simp only [Act.put, List.getElem_toArray, List.getElem_cons_succ, List.getElem_cons_zero, List.setIfInBounds_toArray, List.set_cons_zero, List.set_cons_succ]
        refine goes_take (i := 15) (v := undef) rfl (by kernel_rfl) (by kernel_rfl) (by kernel_rfl) (by kernel_rfl) (fun _ _ _ h => h) (Or.inr ⟨by rfl, rfl⟩) (by assumption) ?_
        simp only [Act.put, List.getElem_toArray, List.getElem_cons_succ, List.getElem_cons_zero, List.setIfInBounds_toArray, List.set_cons_zero, List.set_cons_succ]
        have hbf := hb22'
        refine goes_take (i := 16) (v := (.bool true)) rfl (by kernel_rfl) (by kernel_rfl) (by kernel_rfl) (by kernel_rfl) (fun _ _ _ h => h) (Or.inl ⟨by rfl, ?gy51⟩) (by assumption) ?gr51
        case gy51 => (intro W9 hW9; obtain ⟨k0, k1, k2, k3, k4, k5, k6, k7, k8, k9, k10, k11, k12, k13, k14, k15, k16, k17, k18, k19⟩ := hW9; first | (go_simp; done) | (go_simp; with_reducible rfl))
        simp only [Act.put, List.getElem_toArray, List.getElem_cons_succ, List.getElem_cons_zero, List.setIfInBounds_toArray, List.set_cons_zero, List.set_cons_succ]
        refine goes_take (i := 17) (v := (.bool true)) rfl (by kernel_rfl) (by kernel_rfl) (by kernel_rfl) (by kernel_rfl) (fun _ _ _ h => h) (Or.inl ⟨by rfl, ?gy52⟩) (by assumption) ?gr52
        case gy52 => (intro W9 hW9; obtain ⟨k0, k1, k2, k3, k4, k5, k6, k7, k8, k9, k10, k11, k12, k13, k14, k15, k16, k17, k18, k19⟩ := hW9; first | (go_simp; done) | (go_simp; with_reducible rfl))
        simp only [Act.put, List.getElem_toArray, List.getElem_cons_succ, List.getElem_cons_zero, List.setIfInBounds_toArray, List.set_cons_zero, List.set_cons_succ]
        refine goes_take (i := 18) (v := (.bool true)) rfl (by kernel_rfl) (by kernel_rfl) (by kernel_rfl) (by kernel_rfl) (fun _ _ _ h => h) (Or.inl ⟨by rfl, ?gy53⟩) (by assumption) ?gr53
        case gy53 => (intro W9 hW9; obtain ⟨k0, k1, k2, k3, k4, k5, k6, k7, k8, k9, k10, k11, k12, k13, k14, k15, k16, k17, k18, k19⟩ := hW9; first | (go_simp; done) | (go_simp; with_reducible rfl))
        simp only [Act.put, List.getElem_toArray, List.getElem_cons_succ, List.getElem_cons_zero, List.setIfInBounds_toArray, List.set_cons_zero, List.set_cons_succ]
        refine goes_one (i := 19) (by kernel_rfl) rfl (fun K9 hK9 => ?_)
        go_simp
        refine hK9.out _ _ (fun h => absurd rfl h) (fun _ => ?_)
        clear hK9 K9 hHeld
        refine goes_done (by kernel_rfl) ?_ _
        go_wp2
        go_ret
        exact ⟨rfl, HW16.out.trans (hbf.mono HW16.out.size)⟩
end Go.Proofs.YtpfhhdiipedklaaDoor
