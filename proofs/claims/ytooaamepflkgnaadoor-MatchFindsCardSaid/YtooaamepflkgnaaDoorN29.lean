/- Texts that a proof rests on: The contract of times. -/
import Derived.Test.YtooaamepflkgnaaDoorN28
import Derived.Deep.Cut
import Derived.Deep.CutRange
set_option maxRecDepth 100000
namespace Go.Proofs.YtooaamepflkgnaaDoor
open Go.RowKit

/-- Behind bytes of a set. -/
def StretchC (s : ByteArray) : Prop := ∀ (mb : Nat → Option Pat) (X : Nat → Prop) (w : World) (v rv : Value) (K : List (Int × Int)) (c : BitVec 256), Pre s mb X v K w →
  Calls Tryd.prog 61 #[mV rv s, (.agg #[.int .u64 (wd (c) 0), .int .u64 (wd (c) 1), .int .u64 (wd (c) 2), .int .u64 (wd (c) 3)]), .agg #[v]] w (Post s mb X (fun i j => ∃ k, Pw (byteR s c) k i j) K w)
theorem cell_outM {s : ByteArray} {mb : Nat → Option Pat} {X : Nat → Prop} {w w' : World} {a : Addr} {x : Value} (hm : Memos s mb X w) (ho : Out (Xm mb) w w') (hc : w.cell? a = some x) : w'.cell? a = some x :=
  ho.cell hc (by obtain ⟨o, h1, h2⟩ := cell_obj hc; exact hm.not_cells h1 h2)
theorem repB_true {p : Pat} (h : repB p = true) : p.hi < 0 ∧ ∃ q, p.kids = [q] ∧ q.op = 0 := by
  unfold repB at h
  simp only [Bool.and_eq_true, decide_eq_true_eq, beq_iff_eq] at h
  obtain ⟨h1, h2, h3⟩ := h
  refine ⟨h1, ?_⟩
  cases hk : p.kids with
  | nil => rw [hk] at h2; simp at h2
  | cons q l =>
    rw [hk] at h2 h3
    have : l = [] := by cases l with | nil => rfl | cons a b => simp at h2
    subst this
    exact ⟨q, rfl, by simpa using h3⟩
/-- Behind the first loop. -/
def AfA (s : ByteArray) (mb : Nat → Option Pat) (X : Nat → Prop) (K : List (Int × Int)) (p : Pat) (N lo : Nat) (w1 wx : World) : Prop := ∃ (u : Value) (J : List (Int × Int)), wx.heap[N + 1 + 1 + 1]? = some (.cells #[u] 61 (0, 0)) ∧ Pre s mb (Loc X N (N + 1 + 1 + 1 + 1)) u J wx ∧ (∀ z, mem J z ↔ ∃ i, mem K i ∧ Pw (rowM s p.kids) lo i z) ∧ Out (fun k => Xm mb k ∨ k = N + 1 + 1 + 1) w1 wx
set_option linter.unusedSimpArgs false in
set_option maxHeartbeats 8000000 in
theorem times_any (s : ByteArray) (mb : Nat → Option Pat) (p : Pat) (rep : Bool) (b : Nat) (rv : Value) (K : List (Int × Int)) (hop : p.op = 3) (hnum : p.num = true) (hS : StretchC s) (hE : ∀ q ∈ p.kids, ∀ rep b, EndsC s mb q rep b) (hl5 : p.kids.length < 10000)
    (X : Nat → Prop) (w : World) (v : Value) (hp : Pre s mb X v K w) (ht : TreeP w mb p rep b) :
    Calls Tryd.prog 46 #[mV rv s, pV b, .agg #[v]] w (Post s mb X (p.M s) K w) := by
  obtain ⟨a, c, rfl⟩ := hp.rn.len
  have hsz := hp.sz
  have ht0 := ht
  rw [TreeP_eq] at ht
  obtain ⟨ks, kn, bs, hpb, hmb, -, hks, htl⟩ := ht
  obtain ⟨ka, kc, rfl⟩ := hks.form
  obtain ⟨N, hN⟩ : ∃ N, w.heap.size = N := ⟨_, rfl⟩
  obtain ⟨hb1, hsz1, h0, h1, h2, h3⟩ := four_rows w #[rv, .string s] #[.slice a K.length c] #[.slice none 0 0] #[.slice a K.length c] 53 61 61 61 N hN
  obtain ⟨w1, hw1⟩ : ∃ w1, w1 = (((w.alloc (.cells #[rv, .string s] 53)).alloc (.cells #[.slice a K.length c] 61)).alloc (.cells #[.slice none 0 0] 61)).alloc (.cells #[.slice a K.length c] 61) := ⟨_, rfl⟩
  rw [← hw1] at hb1 hsz1 h0 h1 h2 h3
  have hb1' : Below w.heap.size w w1 := by rw [hN]; exact hb1
  have hp1 := hp.loc hb1' (N := N) (B := N + 1 + 1 + 1 + 1) hN (by omega)
  have hm0 : mb N = none := hp.new_none (by omega)
  have hm1 : mb (N + 1) = none := hp.new_none (by omega)
  have hm2 : mb (N + 1 + 1) = none := hp.new_none (by omega)
  have hm3 : mb (N + 1 + 1 + 1) = none := hp.new_none (by omega)
  obtain ⟨hl0, hl1, hl2, hl3⟩ := least_ge p hop hnum
  obtain ⟨lo, hlo⟩ : ∃ lo : Nat, leastN p = lo := ⟨(leastN p).toNat, by omega⟩
  have hlob : lo ≤ 1000 := by omega
  have hbl : bs.length < 10000 := by have := (TreeL_at htl).1; omega
  have HE := Lib.hid (fun i (h : i < p.kids.length) (_ : i < bs.length) => hE p.kids[i] (List.getElem_mem h) (rep || p.op == 3) bs[i])
  have HP := Lib.hid hp
  have HP1 := Lib.hid hp1
  have HT := Lib.hid ht0
  have HTL := Lib.hid htl
  have HKS := Lib.hid hks
  have HB1 := Lib.hid hb1'
  have HPB := Lib.hid hpb
  have HMB := Lib.hid hmb
  have HM := Lib.hid (And.intro hm0 (And.intro hm1 (And.intro hm2 hm3)))
  have H0 := Lib.hid h0
  have H1 := Lib.hid h1
  have H2 := Lib.hid h2
  have H3 := Lib.hid h3
  have HS := Lib.hid hS
  have HOP := Lib.hid hop
  have HNUM := Lib.hid hnum
  have HLO := Lib.hid hlo
  have HL := Lib.hid (And.intro hl1 (And.intro hl2 hl3))
  clear hp hp1 ht0 htl hks hb1' hb1 hpb hmb hm0 hm1 hm2 hm3 h0 h1 h2 h3 hS hop hnum hlo hl0 hl1 hl2 hl3 hE
  have mixed : Tryd.prog.follows .mixedOrders = true := by kernel_rfl
  go_enter Tryd.func46, Tryd.ntmps46
  go_upto_region 2 with fail
  rw [← hw1]
  clear hw1
  go_cut [8] from 12 (fun s8 wx => s8 = .int .i64 0 ∧ wx = w1)
  case first =>
    go_wp2
    go_meet
    case rel => exact ⟨rfl, rfl⟩
  case rest =>
    obtain ⟨rfl, hwc⟩ := hcut
    obtain rfl := hwc.symm
    rename_i K1 hK1 K2 hK2
    refine hK2 _ _ ?_
    go_cut [8] from 12 (fun s8 wx => AfA s mb X K p N lo w1 wx)
    case first =>
      go_wp2
      go_loopw [8] (fun x wr => ∃ (k : Nat) (u : Value) (J : List (Int × Int)), x = .int .i64 k ∧ k ≤ lo ∧ wr.heap[N + 1 + 1 + 1]? = some (.cells #[u] 61 (0, 0)) ∧ Pre s mb (Loc X N (N + 1 + 1 + 1 + 1)) u J wr ∧ (∀ z, mem J z ↔ ∃ i, mem K i ∧ Pw (rowM s p.kids) k i z) ∧ Out (fun k => Xm mb k ∨ k = N + 1 + 1 + 1) w1 wr) (fun x _ => lo - (intOf x).toNat)
      case atStart => exact ⟨0, _, K, rfl, Nat.zero_le _, H3.out, HP1.out, fun z => ⟨fun h => ⟨z, h, rfl⟩, fun ⟨i, h, e⟩ => by have e : i = z := e; exact e ▸ h⟩, Out.refl _ _⟩
      case round =>
        obtain ⟨k, u, J, rfl, hk, hbu, hpr, hJ, hor⟩ := hrel
        have how : Out (Xm mb) w wr := frame_out HB1.out hor (fun k e => by have e : k = N + 1 + 1 + 1 := e; omega)
        obtain ⟨c0, c1⟩ := pair_cells ((hor.block N (by omega) (by rintro (h | h); exact h HM.out.1; omega)).trans H0.out)
        have hc3 := box_cell hbu
        have hpbr := (how.block b (lt_of_block HPB.out) (fun h => h HMB.out)).trans HPB.out
        obtain ⟨q0, q5, q6, q7, q8⟩ := part_cells hpbr
        rw [HLO.out] at q5
        obtain ⟨a5, c5, rfl⟩ := hpr.rn.len
        have HBU := Lib.hid hbu
        have HPR := Lib.hid hpr
        have HOR := Lib.hid hor
        have HOW := Lib.hid how
        have HJ := Lib.hid hJ
        clear hbu hpr hor how hJ hpbr q0 q6 q8
        by_cases hkl : k < lo
        · have hd1 : decide ((k : Int) < lo) = true := by simp; omega
          by_cases hJ0 : J = []
          · have hL0 : (J.length == 0) = true := by simp [hJ0]
            have HJ0 := Lib.hid hJ0
            have HL0 := Lib.hid hL0
            clear hJ0 hL0
            go_wp2_with (go_at_call 40; refine (empty_any J (.slice a5 J.length c5) _ wr HPR.out.rn).mono ?_; rw [HL0.out]; rintro e w3 ⟨rfl, hb3⟩)
            go_meet
            case rel =>
              have ho3 : Out (fun k => Xm mb k ∨ k = N + 1 + 1 + 1) w1 w3 := HOR.out.trans (Out.below hb3)
              refine ⟨_, J, (hb3.block (N + 1 + 1 + 1) (lt_of_block HBU.out)).trans HBU.out, HPR.out.below hb3, fun z => ?_, ho3⟩
              have hne : ∀ z, ¬ ∃ i, mem K i ∧ Pw (rowM s p.kids) k i z := fun z h => by
                have := (HJ.out z).2 h
                rw [HJ0.out] at this
                simp [mem] at this
              rw [HJ0.out]
              exact ⟨fun h => by simp [mem] at h, fun h => absurd h (Pw_empty hk hne z)⟩
          · have hL0 : (J.length == 0) = false := by simp [hJ0]
            have HL0 := Lib.hid hL0
            clear hL0 hJ0
            go_wp2_with (go_at_call 40; refine (empty_any J (.slice a5 J.length c5) _ wr HPR.out.rn).mono ?_; rw [HL0.out]; rintro e w3 ⟨rfl, hb3⟩)
            have hb3d : Below wr.heap.size wr w3.drew := hb3.drew
            have e0 : w3.drew.cell? ⟨N, 0, none⟩ = some rv := cell_below hb3d c0
            have e1 : w3.drew.cell? ⟨N, 1, none⟩ = some (.string s) := cell_below hb3d c1
            have e2 : w3.drew.cell? ⟨b, 7, none⟩ = some (.slice ka bs.length kc) := cell_below hb3d q7
            have e3 : w3.drew.cell? ⟨N + 1 + 1 + 1, 0, none⟩ = some (.slice a5 J.length c5) := cell_below hb3d hc3
            have hpr3 := HPR.out.below hb3d
            have ho3 := HOW.out.trans (Out.below hb3d)
            have HC3 := Lib.hid (row_any s mb p.kids (rep || p.op == 3) bs (.slice ka bs.length kc) HE.out _ _ (.slice a5 J.length c5) rv J hpr3 (HKS.out.out ho3) (TreeL.out ho3 HTL.out) hl5)
            have HPR3 := Lib.hid hpr3
            clear q7 c0 c1 hc3 q5 hpr3 ho3
            refine region_goes 7 8 rfl (fun W => W.cell? ⟨N, 0, none⟩ = some rv ∧ W.cell? ⟨N, 1, none⟩ = some (.string s) ∧ W.cell? ⟨b, 7, none⟩ = some (.slice ka bs.length kc) ∧ W.cell? ⟨N + 1 + 1 + 1, 0, none⟩ = some (.slice a5 J.length c5)) mixed ⟨e0, e1, e2, e3⟩ (fun hHeld => ?_)
            refine goes_take (i := 0) (v := ?gv1) rfl (by kernel_rfl) (by kernel_rfl) (by kernel_rfl) (by kernel_rfl) (fun _ _ _ h => h) (Or.inl ⟨by rfl, ?gy1⟩) (by assumption) ?gr1
            case gy1 => (intro W9 hW9; obtain ⟨k0, k1, k2, k3⟩ := hW9; first | (go_simp; done) | (go_simp; with_reducible rfl))
            simp only [Act.put, List.getElem_toArray, List.getElem_cons_succ, List.getElem_cons_zero, List.setIfInBounds_toArray, List.set_cons_zero, List.set_cons_succ]
            refine goes_take (i := 1) (v := ?gv2) rfl (by kernel_rfl) (by kernel_rfl) (by kernel_rfl) (by kernel_rfl) (fun _ _ _ h => h) (Or.inl ⟨by rfl, ?gy2⟩) (by assumption) ?gr2
            case gy2 => (intro W9 hW9; obtain ⟨k0, k1, k2, k3⟩ := hW9; first | (go_simp; done) | (go_simp; with_reducible rfl))
            simp only [Act.put, List.getElem_toArray, List.getElem_cons_succ, List.getElem_cons_zero, List.setIfInBounds_toArray, List.set_cons_zero, List.set_cons_succ]
            refine goes_take (i := 2) (v := ?gv3) rfl (by kernel_rfl) (by kernel_rfl) (by kernel_rfl) (by kernel_rfl) (fun _ _ _ h => h) (Or.inl ⟨by rfl, ?gy3⟩) (by assumption) ?gr3
            case gy3 => (intro W9 hW9; obtain ⟨k0, k1, k2, k3⟩ := hW9; first | (go_simp; done) | (go_simp; with_reducible rfl))
            simp only [Act.put, List.getElem_toArray, List.getElem_cons_succ, List.getElem_cons_zero, List.setIfInBounds_toArray, List.set_cons_zero, List.set_cons_succ]
            refine goes_take (i := 3) (v := ?gv4) rfl (by kernel_rfl) (by kernel_rfl) (by kernel_rfl) (by kernel_rfl) (fun _ _ _ h => h) (Or.inl ⟨by rfl, ?gy4⟩) (by assumption) ?gr4
            case gy4 => (intro W9 hW9; obtain ⟨k0, k1, k2, k3⟩ := hW9; first | (go_simp; done) | (go_simp; with_reducible rfl))
            simp only [Act.put, List.getElem_toArray, List.getElem_cons_succ, List.getElem_cons_zero, List.setIfInBounds_toArray, List.set_cons_zero, List.set_cons_succ]
            refine goes_take (i := 4) (v := ?gv5) rfl (by kernel_rfl) (by kernel_rfl) (by kernel_rfl) (by kernel_rfl) (fun _ _ _ h => h) (Or.inl ⟨by rfl, ?gy5⟩) (by assumption) ?gr5
            case gy5 => (intro W9 hW9; obtain ⟨k0, k1, k2, k3⟩ := hW9; first | (go_simp; done) | (go_simp; with_reducible rfl))
            simp only [Act.put, List.getElem_toArray, List.getElem_cons_succ, List.getElem_cons_zero, List.setIfInBounds_toArray, List.set_cons_zero, List.set_cons_succ]
            refine goes_take (i := 5) (v := ?gv6) rfl (by kernel_rfl) (by kernel_rfl) (by kernel_rfl) (by kernel_rfl) (fun _ _ _ h => h) (Or.inl ⟨by rfl, ?gy6⟩) (by assumption) ?gr6
            case gy6 => (intro W9 hW9; obtain ⟨k0, k1, k2, k3⟩ := hW9; first | (go_simp; done) | (go_simp; with_reducible rfl))
            simp only [Act.put, List.getElem_toArray, List.getElem_cons_succ, List.getElem_cons_zero, List.setIfInBounds_toArray, List.set_cons_zero, List.set_cons_succ]
            refine goes_one (i := 6) (by kernel_rfl) rfl (fun K9 hK9 => ?_)
            go_simp
            refine HC3.out.mono ?_
            rintro e w4 ⟨a6, n6, c6, L6, rfl, hr6, he6, ho6, hm6⟩
            obtain ⟨k0, k1, k2, k3⟩ := hHeld
            refine hK9.out _ _ (fun _ => ⟨ho6.cell k0 (fun h => h HM.out.1), ho6.cell k1 (fun h => h HM.out.1), ho6.cell k2 (fun h => h HMB.out), ho6.cell k3 (fun h => h HM.out.2.2.2)⟩) (fun hHeld => ?_)
            clear hK9 K9 k0 k1 k2 k3 hHeld
            have ho36 : Out (Xm mb) wr w4 := (Out.below hb3d).trans ho6
            have hbx := (ho36.block (N + 1 + 1 + 1) (lt_of_block HBU.out) (fun h => h HM.out.2.2.2)).trans HBU.out
            have hcx := box_cell hbx
            have hfx := frozen_row (j := 0) hbx
            refine goes_one (i := 7) (by kernel_rfl) rfl (fun K9 hK9 => ?_)
            go_simp
            refine hK9.out _ _ (fun h => absurd rfl h) (fun _ => ?_)
            clear hK9 K9
            refine goes_done (by kernel_rfl) ?_ _
            have HF6 := Lib.hid ((HPR3.out.next hr6 he6 ho6 hm6).box (.inr ⟨by omega, by omega⟩) HM.out.2.2.2 (.slice a6 n6 c6))
            have HB6 := Lib.hid (box_set hbx (.slice a6 n6 c6))
            have HX6 : Hid (∀ z, mem L6 z ↔ ∃ i, mem K i ∧ Pw (rowM s p.kids) (k + 1) i z) := Lib.hid fun z => by
              rw [he6.2.2]
              simp only [HJ.out, Pw_succ]
              exact ⟨fun ⟨m, ⟨i, h1, h2⟩, h3⟩ => ⟨i, h1, m, h2, h3⟩, fun ⟨i, h1, m, h2, h3⟩ => ⟨m, ⟨i, h1, h2⟩, h3⟩⟩
            have HO6 := Lib.hid ((HOR.out.comp ho36 fun i _ h => .inl h).comp (Out.set (X := fun k => k = N + 1 + 1 + 1) w4 0 (.slice a6 n6 c6) rfl) fun i _ h => .inr h)
            clear hbx hcx hfx hr6 he6 ho6 hm6 ho36 e0 e1 e2 e3 hb3 hb3d
            go_wp2
            go_roundw
            case rel => exact ⟨k + 1, _, _, num_succ k, by omega, HB6.out, HF6.out, HX6.out, HO6.out⟩
            case measure => simp [intOf]; omega
        · obtain rfl : k = lo := by omega
          have hd1 : decide ((k : Int) < k) = false := by simp
          clear hkl
          go_wp2
          go_meet
          case rel => exact ⟨_, J, HBU.out, HPR.out, HJ.out, HOR.out⟩
    case rest =>
      obtain ⟨u0, J0, hb0, hp0, hJ0, ho0⟩ := hcut
      have how : Out (Xm mb) w wc := frame_out HB1.out ho0 (fun k e => by have e : k = N + 1 + 1 + 1 := e; omega)
      have hn0 := (ho0.block N (by omega) (by rintro (h | h); exact h HM.out.1; omega)).trans H0.out
      obtain ⟨c0, c1⟩ := pair_cells hn0
      have hr2 := (ho0.block (N + 1 + 1) (by omega) (by rintro (h | h); exact h HM.out.2.2.1; omega)).trans H2.out
      have hc3 := box_cell hb0
      have hpbc := (how.block b (lt_of_block HPB.out) (fun h => h HMB.out)).trans HPB.out
      obtain ⟨q0, q5, q6, q7, q8⟩ := part_cells hpbc
      rw [HLO.out] at q5
      obtain ⟨a5, c5, rfl⟩ := hp0.rn.len
      have htc := TreeP.out how p HT.out
      have hszc := how.size
      have hszc2 := ho0.size
      have HN0 := Lib.hid hn0
      have HTC := Lib.hid htc
      have HP0 := Lib.hid hp0
      have HJ0 := Lib.hid hJ0
      have HOW := Lib.hid how
      have HR2 := Lib.hid hr2
      have HPBC := Lib.hid hpbc
      clear q0 q8 htc hp0 hJ0 hr2 hpbc ho0
      refine hK1 _ _ ?_
      rcases hrep : repB p with _ | _
      · obtain ⟨bp, hbp⟩ : ∃ bp, wc.heap.size = bp := ⟨_, rfl⟩
        have hp00 := HP0.out
        have hv9 := Var.new (bp := bp) (t := .slice none 0 0) hp00.memo hp00.xm (fun k hk => by have := hp00.lt k hk; omega) hbp rfl
        have hb9 := below_one wc (.cells #[.slice none 0 0] 61)
        obtain ⟨w9, hw9⟩ : ∃ w9, w9 = wc.alloc (.cells #[.slice none 0 0] 61) := ⟨_, rfl⟩
        rw [← hw9] at hv9 hb9
        have hsz9 : w9.heap.size = bp + 1 := by rw [hw9]; simp [hbp]
        have hrn9 : Rn w9 (Bad bp (Loc X N (N + 1 + 1 + 1 + 1)) w9) (.slice a5 J0.length c5) J0 := by
          obtain ⟨v9, hs9⟩ := hv9.set
          refine (hp00.rn.far (Out.below (X := Xm mb) hb9) hp00.xm).weak fun k _ h => ?_
          rcases h with e | e | e
          · exact .inr (by omega)
          · rw [hs9.ownAt] at e; have := (hs9.own e).1; exact .inr (by omega)
          · exact .inl e
        have HJC := Lib.hid (hv9.join_call (Out.refl _ _) hv9.memo hrn9 hp00.nrm hp00.inn hsz)
        have HB9 := Lib.hid hb9
        have HRN := Lib.hid hp00.rn
        have HW9 := Lib.hid hw9
        have c39 : w9.cell? ⟨N + 1 + 1 + 1, 0, none⟩ = some (.slice a5 J0.length c5) := cell_below hb9 hc3
        have hm30 : mb (N + 1 + 1 + 1) = none := HM.out.2.2.2
        rw [hw9] at c39
        clear hv9 hb9 hrn9 hw9 hp00 c0 c1
        go_wp2_with (first
          | (go_at_call 60; refine (repeats_any mb p rep b wc HTC.out).mono ?_; rw [hrep]; rintro e w2 ⟨rfl, hw2⟩; obtain rfl := hw2.symm)
          | (go_at_call 58; rw [← HW9.out]; refine HJC.out.mono ?_; rintro e w10 ⟨rfl, hv10, ho10⟩; have c310 := ho10.cell (by rw [HW9.out]; exact c39) (by rintro (h | h | h); exact h hm30; (have h : N + 1 + 1 + 1 = bp := h; omega); (have h : bp < N + 1 + 1 + 1 := h; omega)); have q510 := ho10.cell (cell_below HB9.out q5) (by rintro (h | h | h); exact h HMB.out; (have h : b = bp := h; have := lt_of_block HPBC.out; omega); (have h : bp < b := h; have := lt_of_block HPBC.out; omega)); have q511 := cell_below (below_one w10 (.cells #[.slice a5 J0.length c5] 61)) q510))
        obtain ⟨nf, hnf⟩ : ∃ nf, w10.heap.size = nf := ⟨_, rfl⟩
        have hv11 := Var2.new hv10 hnf (.slice a5 J0.length c5)
        have hbx11 := heap_alloc_new w10 (.cells #[.slice a5 J0.length c5] 61)
        rw [hnf] at hbx11
        have hb11 := below_one w10 (.cells #[.slice a5 J0.length c5] 61)
        obtain ⟨w11, hw11⟩ : ∃ w11, w10.alloc (.cells #[.slice a5 J0.length c5] 61) = w11 := ⟨_, rfl⟩
        rw [hnf, hw11]
        rw [hw11] at hv11 hbx11 hb11
        have hcw : Out (fun k => Xm mb k ∨ bp ≤ k) wc w11 := ((Out.below (X := fun k => Xm mb k ∨ bp ≤ k) HB9.out).comp ho10 fun k _ h => by
          rcases h with h | h | h
          · exact .inl h
          · exact .inr (by omega)
          · exact .inr (by omega)).trans (Out.below hb11)
        have hown10 : ∀ g, ownAt w11 bp = some g → bp < g := fun g hg => by
          obtain ⟨v11, hs11⟩ := hv11.var.set
          rw [hs11.ownAt] at hg
          have := (hs11.own hg).1
          omega
        have hrn11 : Rn w11 (Bad bp (Yn (Loc X N (N + 1 + 1 + 1 + 1)) nf) w11) (.slice a5 J0.length c5) J0 := by
          have h1 := HRN.out.weak (Y := fun k => Loc X N (N + 1 + 1 + 1 + 1) k ∨ Xm mb k ∨ bp ≤ k) (fun k hk h => by
            rcases h with h | h | h
            · exact h
            · exact HP0.out.xm k h
            · omega)
          refine (h1.out hcw fun k _ h => ?_).weak fun k _ h => ?_
          · rcases h with h | h
            · exact .inr (.inl h)
            · exact .inr (.inr h)
          · rcases h with h | h | h | h
            · exact .inr (.inr (by omega))
            · have := hown10 k h; exact .inr (.inr (by omega))
            · exact .inl h
            · have := hv11.far; exact .inr (.inr (by omega))
        have HCW := Lib.hid hcw
        have HV11 := Lib.hid hv11
        have HBX11 := Lib.hid hbx11
        have HRN11 := Lib.hid hrn11
        have hl1 := HL.out.2.1
        have hl2 := HL.out.2.2
        rw [HLO.out] at hl1
        clear hcw hv11 hbx11 hrn11 hown10 hb11 hw11 hv10 ho10 c310 q510 q511 c39 hc3 q6 q7 q5 hn0
        go_loopw [11] (fun x wr => ∃ (e : Nat) (u : Value) (T F : List (Int × Int)), x = .int .i64 ((lo + e : Nat) : Int) ∧ e ≤ 2000 ∧ (0 ≤ p.hi → (lo : Int) + e ≤ p.hi) ∧ wr.heap[nf]? = some (.cells #[u] 61 (0, 0)) ∧ Var2 s mb (Loc X N (N + 1 + 1 + 1 + 1)) bp nf T wr ∧ Rn wr (Bad bp (Yn (Loc X N (N + 1 + 1 + 1 + 1)) nf) wr) u F ∧ Nrm F ∧ In s.size F ∧ Bfs (rowM s p.kids) J0 T F e ∧ Out (fun k => Xm mb k ∨ bp ≤ k) wc wr) (fun x _ => lo + s.size + 1 - (intOf x).toNat)
        case atStart => exact ⟨0, _, _, J0, rfl, by omega, by omega, HBX11.out, HV11.out, HRN11.out, HP0.out.nrm, HP0.out.inn, Bfs.start HP0.out.inn, HCW.out⟩
        case round =>
          obtain ⟨e, u, T, F, rfl, he2, hehi, hbu, hv2, hru, hFN, hFI, hbfs, hor⟩ := hrel
          have howr : Out (Xm mb) w wr := HOW.out.comp hor (fun k hk h => by
            rcases h with h | h
            · exact h
            · omega)
          obtain ⟨c0, c1⟩ := pair_cells ((hor.block N (by omega) (by rintro (h | h); exact h HM.out.1; omega)).trans HN0.out)
          have hr2 := (hor.block (N + 1 + 1) (by omega) (by rintro (h | h); exact h HM.out.2.2.1; omega)).trans HR2.out
          have hpbr := (hor.block b (lt_of_block HPBC.out) (by rintro (h | h); exact h HMB.out; (have := lt_of_block HPBC.out; omega))).trans HPBC.out
          obtain ⟨q0, q5, q6, q7, q8⟩ := part_cells hpbr
          obtain ⟨a5, c5, rfl⟩ := hru.len
          obtain ⟨v9, hs9⟩ := hv2.var.set
          obtain ⟨a9, c9, rfl, _⟩ := hs9.2.1.form
          have hct := hs9.cell
          have hcf := box_cell hbu
          have hwr := hor.size
          have FIN : Hid (∀ w3, Below wr.heap.size wr w3 → (F = [] ∧ (0 ≤ p.hi → leastN p + e ≤ p.hi) ∨ (0 ≤ p.hi ∧ leastN p + e = p.hi)) → w3.cell? ⟨bp, 0, none⟩ = some (.slice a9 T.length c9) ∧ w3.cell? ⟨N + 1 + 1, 0, none⟩ = some (.slice none 0 0) ∧ w3.frozen? ⟨N + 1 + 1, 0, none⟩ = false ∧ Hid (Post s mb X (p.M s) K w (.returned (.agg #[.slice a9 T.length c9])) (w3.setCell ⟨N + 1 + 1, 0, none⟩ (.slice a9 T.length c9)))) := Lib.hid fun w3 hb3 hend => by
            have hv3 := hv2.var.below hb3
            have hs3 := hs9.below hb3
            have hr3 := (hb3.block (N + 1 + 1) (by omega)).trans hr2
            refine ⟨cell_below hb3 hct, box_cell hr3, frozen_row hr3, Lib.hid ?_⟩
            exact fin_post (R := p.M s) (r0 := N + 1 + 1) (B := N + 1 + 1 + 1 + 1) HP.out (howr.trans (Out.below hb3)) hN rfl (hv3.rn hs3) ⟨hv3.nrm, hv3.inn, fun x => rep_done s p HOP.out HNUM.out HP.out.inn (by have := HJ0.out; rw [HLO.out]; exact this) hbfs hend x⟩ hv3.memoX (by omega) (by omega) HM.out.2.2.1
          have HBU := Lib.hid hbu
          have HV2 := Lib.hid hv2
          have HRU := Lib.hid hru
          have HFN := Lib.hid hFN
          have HFI := Lib.hid hFI
          have HBFS := Lib.hid hbfs
          have HOR := Lib.hid hor
          have HOWR := Lib.hid howr
          have hf0 : F ≠ [] → (e : Int) ≤ s.size := fun h => by
            obtain ⟨z, hz⟩ := mem_some hFN h
            have := hbfs.far z hz
            have := hFI z hz
            omega
          clear hbu hv2 hru hFN hFI hbfs hor howr hr2 hpbr q0 q5 q8 hs9
          by_cases hhi : p.hi < 0
          · have hd1 : decide (p.hi < 0) = true := by simpa using hhi
            by_cases hF0 : F = []
            · have hL0 : (F.length == 0) = true := by simp [hF0]
              have HL0 := Lib.hid hL0
              have HEND := Lib.hid (show (F = [] ∧ (0 ≤ p.hi → leastN p + e ≤ p.hi)) ∨ (0 ≤ p.hi ∧ leastN p + e = p.hi) from .inl ⟨hF0, fun _ => by rw [HLO.out]; omega⟩)
              clear hL0 hF0 hf0
              go_wp2_with (go_at_call 40; refine (empty_any F (.slice a5 F.length c5) _ wr HRU.out).mono ?_; rw [HL0.out]; rintro e w3 ⟨rfl, hb3⟩; obtain ⟨z1, z2, z3, HPF⟩ := FIN.out w3 hb3 HEND.out)
              exact bodyPost_ret (v := .agg #[.slice a9 T.length c9]) (by simp [results, Tryd.results46, go_sem, *]) rfl HPF.out
            · have hL0 : (F.length == 0) = false := by simp [hF0]
              have HL0 := Lib.hid hL0
              have hes := hf0 hF0
              clear hL0 hF0 hf0
              go_wp2_with (go_at_call 40; refine (empty_any F (.slice a5 F.length c5) _ wr HRU.out).mono ?_; rw [HL0.out]; rintro e w3 ⟨rfl, hb3⟩)
              have hb3d : Below wr.heap.size wr w3.drew := hb3.drew
              have e0 : w3.drew.cell? ⟨N, 0, none⟩ = some rv := cell_below hb3d c0
              have e1 : w3.drew.cell? ⟨N, 1, none⟩ = some (.string s) := cell_below hb3d c1
              have e2 : w3.drew.cell? ⟨b, 7, none⟩ = some (.slice ka bs.length kc) := cell_below hb3d q7
              have e3 : w3.drew.cell? ⟨nf, 0, none⟩ = some (.slice a5 F.length c5) := cell_below hb3d hcf
              have e4 : w3.drew.cell? ⟨bp, 0, none⟩ = some (.slice a9 T.length c9) := cell_below hb3d hct
              have hv3 := HV2.out.below hb3d
              have hown3 : ownAt w3.drew bp = ownAt wr bp := ownAt_below hb3d HV2.out.var.size
              have hp3 : Pre s mb (Bad bp (Yn (Loc X N (N + 1 + 1 + 1 + 1)) nf) w3.drew) (.slice a5 F.length c5) F w3.drew :=
                ⟨hsz, fun k hk => .inr (.inr (.inl (HP0.out.xm k hk))), hv3.fit, (HRU.out.below hb3d).weak fun k _ h => (Bad.own hown3 k).1 h, HFN.out, HFI.out, hv3.memo⟩
              have ho3 := HOWR.out.trans (Out.below hb3d)
              have HC3 := Lib.hid (row_any s mb p.kids (rep || p.op == 3) bs (.slice ka bs.length kc) HE.out _ _ (.slice a5 F.length c5) rv F hp3 (HKS.out.out ho3) (TreeL.out ho3 HTL.out) hl5)
              have HV3 := Lib.hid hv3
              have hmd := hv3.memo
              clear q7 c0 c1 hcf hct q6 hp3 ho3 hv3
              refine region_goes 9 10 rfl (fun W => W.cell? ⟨N, 0, none⟩ = some rv ∧ W.cell? ⟨N, 1, none⟩ = some (.string s) ∧ W.cell? ⟨b, 7, none⟩ = some (.slice ka bs.length kc) ∧ W.cell? ⟨nf, 0, none⟩ = some (.slice a5 F.length c5) ∧ W.cell? ⟨bp, 0, none⟩ = some (.slice a9 T.length c9)) mixed ⟨e0, e1, e2, e3, e4⟩ (fun hHeld => ?_)
              refine goes_take (i := 0) (v := ?gv112) rfl (by kernel_rfl) (by kernel_rfl) (by kernel_rfl) (by kernel_rfl) (fun _ _ _ h => h) (Or.inl ⟨by rfl, ?gy112⟩) (by assumption) ?gr112
              case gy112 => (intro W9 hW9; obtain ⟨k0, k1, k2, k3, k4⟩ := hW9; first | (go_simp; done) | (go_simp; with_reducible rfl))
              simp only [Act.put, List.getElem_toArray, List.getElem_cons_succ, List.getElem_cons_zero, List.setIfInBounds_toArray, List.set_cons_zero, List.set_cons_succ]
              refine goes_take (i := 1) (v := ?gv113) rfl (by kernel_rfl) (by kernel_rfl) (by kernel_rfl) (by kernel_rfl) (fun _ _ _ h => h) (Or.inl ⟨by rfl, ?gy113⟩) (by assumption) ?gr113
              case gy113 => (intro W9 hW9; obtain ⟨k0, k1, k2, k3, k4⟩ := hW9; first | (go_simp; done) | (go_simp; with_reducible rfl))
              simp only [Act.put, List.getElem_toArray, List.getElem_cons_succ, List.getElem_cons_zero, List.setIfInBounds_toArray, List.set_cons_zero, List.set_cons_succ]
              refine goes_take (i := 2) (v := ?gv114) rfl (by kernel_rfl) (by kernel_rfl) (by kernel_rfl) (by kernel_rfl) (fun _ _ _ h => h) (Or.inl ⟨by rfl, ?gy114⟩) (by assumption) ?gr114
              case gy114 => (intro W9 hW9; obtain ⟨k0, k1, k2, k3, k4⟩ := hW9; first | (go_simp; done) | (go_simp; with_reducible rfl))
              simp only [Act.put, List.getElem_toArray, List.getElem_cons_succ, List.getElem_cons_zero, List.setIfInBounds_toArray, List.set_cons_zero, List.set_cons_succ]
              refine goes_take (i := 3) (v := ?gv115) rfl (by kernel_rfl) (by kernel_rfl) (by kernel_rfl) (by kernel_rfl) (fun _ _ _ h => h) (Or.inl ⟨by rfl, ?gy115⟩) (by assumption) ?gr115
              case gy115 => (intro W9 hW9; obtain ⟨k0, k1, k2, k3, k4⟩ := hW9; first | (go_simp; done) | (go_simp; with_reducible rfl))
              simp only [Act.put, List.getElem_toArray, List.getElem_cons_succ, List.getElem_cons_zero, List.setIfInBounds_toArray, List.set_cons_zero, List.set_cons_succ]
              refine goes_take (i := 4) (v := ?gv116) rfl (by kernel_rfl) (by kernel_rfl) (by kernel_rfl) (by kernel_rfl) (fun _ _ _ h => h) (Or.inl ⟨by rfl, ?gy116⟩) (by assumption) ?gr116
              case gy116 => (intro W9 hW9; obtain ⟨k0, k1, k2, k3, k4⟩ := hW9; first | (go_simp; done) | (go_simp; with_reducible rfl))
              simp only [Act.put, List.getElem_toArray, List.getElem_cons_succ, List.getElem_cons_zero, List.setIfInBounds_toArray, List.set_cons_zero, List.set_cons_succ]
              refine goes_take (i := 5) (v := ?gv117) rfl (by kernel_rfl) (by kernel_rfl) (by kernel_rfl) (by kernel_rfl) (fun _ _ _ h => h) (Or.inl ⟨by rfl, ?gy117⟩) (by assumption) ?gr117
              case gy117 => (intro W9 hW9; obtain ⟨k0, k1, k2, k3, k4⟩ := hW9; first | (go_simp; done) | (go_simp; with_reducible rfl))
              simp only [Act.put, List.getElem_toArray, List.getElem_cons_succ, List.getElem_cons_zero, List.setIfInBounds_toArray, List.set_cons_zero, List.set_cons_succ]
              refine goes_take (i := 7) (v := ?gv118) rfl (by kernel_rfl) (by kernel_rfl) (by kernel_rfl) (by kernel_rfl) (fun _ _ _ h => h) (Or.inl ⟨by rfl, ?gy118⟩) (by assumption) ?gr118
              case gy118 => (intro W9 hW9; obtain ⟨k0, k1, k2, k3, k4⟩ := hW9; first | (go_simp; done) | (go_simp; with_reducible rfl))
              simp only [Act.put, List.getElem_toArray, List.getElem_cons_succ, List.getElem_cons_zero, List.setIfInBounds_toArray, List.set_cons_zero, List.set_cons_succ]
              refine goes_one (i := 6) (by kernel_rfl) rfl (fun K9 hK9 => ?_)
              go_simp
              refine HC3.out.mono ?_
              rintro e w5 ⟨a6, n6, c6, L6, rfl, hr6, he6, ho6, hm6⟩
              obtain ⟨k0, k1, k2, k3, k4⟩ := hHeld
              refine hK9.out _ _ (fun _ => ⟨cell_outM hmd ho6 k0, cell_outM hmd ho6 k1, cell_outM hmd ho6 k2, cell_outM hmd ho6 k3, cell_outM hmd ho6 k4⟩) (fun hHeld => ?_)
              have hHeld := hHeld (by decide)
              clear hK9 K9 k0 k1 k2 k3 k4
              have hv5 := HV3.out.call ho6 hm6
              have hr9 : Rn w5 (fun _ => False) (.slice a9 T.length c9) T := by
                obtain ⟨v8, hs8⟩ := hv5.var.set
                have h1 := hs8.cell
                rw [hHeld.2.2.2.2] at h1
                cases h1
                exact (hv5.var.rn hs8).weak fun _ _ h => h.elim
              refine goes_one (i := 8) (by kernel_rfl) rfl (fun K9 hK9 => ?_)
              go_simp
              refine (minus_any (.slice a6 n6 c6) (.slice a9 T.length c9) L6 T (fun _ => False) (s.size : Int) _ he6.nrm he6.inn HV2.out.var.nrm HV2.out.var.inn (by omega) (by omega) (hr6.weak fun _ _ h => h.elim) hr9).mono ?_
              rintro e w6 ⟨a7, n7, c7, rfl, hr7, hb7⟩
              obtain ⟨k0, k1, k2, k3, k4⟩ := hHeld
              refine hK9.out _ _ (fun _ => ⟨cell_below hb7 k0, cell_below hb7 k1, cell_below hb7 k2, cell_below hb7 k3, cell_below hb7 k4⟩) (fun hHeld => ?_)
              clear hK9 K9 k0 k1 k2 k3 k4 hHeld hr9
              have hv6 := hv5.below hb7
              obtain ⟨u6, hu6⟩ := hv6.box
              have hc6 := box_cell hu6
              have hf6 := frozen_row (j := 0) hu6
              refine goes_one (i := 9) (by kernel_rfl) rfl (fun K9 hK9 => ?_)
              go_simp
              refine hK9.out _ _ (fun h => absurd rfl h) (fun _ => ?_)
              clear hK9 K9
              refine goes_done (by kernel_rfl) ?_ _
              obtain ⟨hv7, hown7⟩ := hv6.set (.slice a7 n7 c7)
              have hr8 : Rn (w6.setCell ⟨nf, 0, none⟩ (.slice a7 n7 c7)) (Bad bp (Yn (Loc X N (N + 1 + 1 + 1 + 1)) nf) (w6.setCell ⟨nf, 0, none⟩ (.slice a7 n7 c7))) (.slice a7 n7 c7) (minusR L6 T) := by
                have hown6 : ownAt w6 bp = ownAt w5 bp := ownAt_below hb7 hv5.var.size
                refine (hr7.out (Out.set (X := fun k => k = nf) w6 0 _ rfl) (fun k _ e => ?_)).weak fun k _ h => ?_
                · have e : k = nf := e
                  rw [e]; exact hv5.lt
                · exact hv5.fit k ((Bad.own hown6 k).1 ((Bad.own hown7 k).1 h))
              have ho7 : Out (fun k => Xm mb k ∨ bp ≤ k) wr (w6.setCell ⟨nf, 0, none⟩ (.slice a7 n7 c7)) := ((((Out.below (X := Xm mb) hb3d).trans ho6).trans (Out.below hb7)).mono fun _ _ h => .inl h).comp (Out.set (X := fun k => k = nf) w6 0 _ rfl) fun k _ e => .inr (by have e : k = nf := e; have := hv5.far; omega)
              have hcn7 := box_cell (box_set hu6 (.slice a7 n7 c7))
              have hLX := he6.2.2
              have HJ9 := Lib.hid (hv7.join hr8 (Nrm.minus L6 HV2.out.var.nrm) (he6.inn.minus HV2.out.var.nrm) hsz)
              have HBX7 := Lib.hid (box_set hu6 (.slice a7 n7 c7))
              have HV7 := Lib.hid hv7
              have HO7 := Lib.hid ho7
              have HLX := Lib.hid hLX
              have HNI := Lib.hid (And.intro (Nrm.minus L6 HV2.out.var.nrm) (he6.inn.minus HV2.out.var.nrm))
              have hw15 : IntKind.i64.wrap ((lo : Int) + e + 1) = (lo : Int) + e + 1 := by rw [IntKind.wrap_i64]; omega
              clear hmd hr6 he6 ho6 hm6 hv5 hr7 hb7 hv6 hu6 hc6 hf6 hv7 hr8 ho7 hLX hown7 hown3 e0 e1 e2 e3 e4 hb3 hb3d
              go_wp2_with (go_at_call 58; refine HJ9.out.mono ?_; rintro e w8 ⟨rfl, hv8, ho8, hr8⟩)
              go_roundw
              case rel =>
                refine ⟨e + 1, _, joinR T (minusR L6 T), minusR L6 T, by simp; omega, by omega, by omega, ?_, hv8, hr8, HNI.out.1, HNI.out.2, HBFS.out.step (fun i j => row_mono s p.kids i j) HFI.out HV2.out.var.nrm HLX.out, ?_⟩
                · refine (ho8.block nf HV7.out.lt ?_).trans HBX7.out
                  have hfar := HV7.out.far
                  rintro (h | h)
                  · omega
                  · exact HV7.out.own h
                · refine (HOR.out.trans HO7.out).comp ho8 fun k _ h => ?_
                  rcases h with h | h
                  · exact .inr (by omega)
                  · obtain ⟨v7, hs7⟩ := HV7.out.var.set
                    rw [hs7.ownAt] at h
                    have := (hs7.own h).1
                    exact .inr (by omega)
              case measure => simp [intOf]; omega
          · have hd1 : decide (p.hi < 0) = false := by simpa using hhi
            by_cases hkh : ((lo + e : Nat) : Int) < p.hi
            · have hd2 : decide (((lo + e : Nat) : Int) < p.hi) = true := by simpa using hkh
              by_cases hF0 : F = []
              · have hL0 : (F.length == 0) = true := by simp [hF0]
                have HL0 := Lib.hid hL0
                have HEND := Lib.hid (show (F = [] ∧ (0 ≤ p.hi → leastN p + e ≤ p.hi)) ∨ (0 ≤ p.hi ∧ leastN p + e = p.hi) from .inl ⟨hF0, fun _ => by rw [HLO.out]; omega⟩)
                clear hL0 hF0 hf0
                go_wp2_with (go_at_call 40; refine (empty_any F (.slice a5 F.length c5) _ wr HRU.out).mono ?_; rw [HL0.out]; rintro e w3 ⟨rfl, hb3⟩; obtain ⟨z1, z2, z3, HPF⟩ := FIN.out w3 hb3 HEND.out)
                exact bodyPost_ret (v := .agg #[.slice a9 T.length c9]) (by simp [results, Tryd.results46, go_sem, *]) rfl HPF.out
              · have hL0 : (F.length == 0) = false := by simp [hF0]
                have HL0 := Lib.hid hL0
                have hes := hf0 hF0
                clear hL0 hF0 hf0
                go_wp2_with (go_at_call 40; refine (empty_any F (.slice a5 F.length c5) _ wr HRU.out).mono ?_; rw [HL0.out]; rintro e w3 ⟨rfl, hb3⟩)
                have hb3d : Below wr.heap.size wr w3.drew := hb3.drew
                have e0 : w3.drew.cell? ⟨N, 0, none⟩ = some rv := cell_below hb3d c0
                have e1 : w3.drew.cell? ⟨N, 1, none⟩ = some (.string s) := cell_below hb3d c1
                have e2 : w3.drew.cell? ⟨b, 7, none⟩ = some (.slice ka bs.length kc) := cell_below hb3d q7
                have e3 : w3.drew.cell? ⟨nf, 0, none⟩ = some (.slice a5 F.length c5) := cell_below hb3d hcf
                have e4 : w3.drew.cell? ⟨bp, 0, none⟩ = some (.slice a9 T.length c9) := cell_below hb3d hct
                have hv3 := HV2.out.below hb3d
                have hown3 : ownAt w3.drew bp = ownAt wr bp := ownAt_below hb3d HV2.out.var.size
                have hp3 : Pre s mb (Bad bp (Yn (Loc X N (N + 1 + 1 + 1 + 1)) nf) w3.drew) (.slice a5 F.length c5) F w3.drew :=
                  ⟨hsz, fun k hk => .inr (.inr (.inl (HP0.out.xm k hk))), hv3.fit, (HRU.out.below hb3d).weak fun k _ h => (Bad.own hown3 k).1 h, HFN.out, HFI.out, hv3.memo⟩
                have ho3 := HOWR.out.trans (Out.below hb3d)
                have HC3 := Lib.hid (row_any s mb p.kids (rep || p.op == 3) bs (.slice ka bs.length kc) HE.out _ _ (.slice a5 F.length c5) rv F hp3 (HKS.out.out ho3) (TreeL.out ho3 HTL.out) hl5)
                have HV3 := Lib.hid hv3
                have hmd := hv3.memo
                clear q7 c0 c1 hcf hct q6 hp3 ho3 hv3
                refine region_goes 9 10 rfl (fun W => W.cell? ⟨N, 0, none⟩ = some rv ∧ W.cell? ⟨N, 1, none⟩ = some (.string s) ∧ W.cell? ⟨b, 7, none⟩ = some (.slice ka bs.length kc) ∧ W.cell? ⟨nf, 0, none⟩ = some (.slice a5 F.length c5) ∧ W.cell? ⟨bp, 0, none⟩ = some (.slice a9 T.length c9)) mixed ⟨e0, e1, e2, e3, e4⟩ (fun hHeld => ?_)
                refine goes_take (i := 0) (v := ?gv119) rfl (by kernel_rfl) (by kernel_rfl) (by kernel_rfl) (by kernel_rfl) (fun _ _ _ h => h) (Or.inl ⟨by rfl, ?gy119⟩) (by assumption) ?gr119
                case gy119 => (intro W9 hW9; obtain ⟨k0, k1, k2, k3, k4⟩ := hW9; first | (go_simp; done) | (go_simp; with_reducible rfl))
                simp only [Act.put, List.getElem_toArray, List.getElem_cons_succ, List.getElem_cons_zero, List.setIfInBounds_toArray, List.set_cons_zero, List.set_cons_succ]
                refine goes_take (i := 1) (v := ?gv120) rfl (by kernel_rfl) (by kernel_rfl) (by kernel_rfl) (by kernel_rfl) (fun _ _ _ h => h) (Or.inl ⟨by rfl, ?gy120⟩) (by assumption) ?gr120
                case gy120 => (intro W9 hW9; obtain ⟨k0, k1, k2, k3, k4⟩ := hW9; first | (go_simp; done) | (go_simp; with_reducible rfl))
                simp only [Act.put, List.getElem_toArray, List.getElem_cons_succ, List.getElem_cons_zero, List.setIfInBounds_toArray, List.set_cons_zero, List.set_cons_succ]
                refine goes_take (i := 2) (v := ?gv121) rfl (by kernel_rfl) (by kernel_rfl) (by kernel_rfl) (by kernel_rfl) (fun _ _ _ h => h) (Or.inl ⟨by rfl, ?gy121⟩) (by assumption) ?gr121
                case gy121 => (intro W9 hW9; obtain ⟨k0, k1, k2, k3, k4⟩ := hW9; first | (go_simp; done) | (go_simp; with_reducible rfl))
                simp only [Act.put, List.getElem_toArray, List.getElem_cons_succ, List.getElem_cons_zero, List.setIfInBounds_toArray, List.set_cons_zero, List.set_cons_succ]
                refine goes_take (i := 3) (v := ?gv122) rfl (by kernel_rfl) (by kernel_rfl) (by kernel_rfl) (by kernel_rfl) (fun _ _ _ h => h) (Or.inl ⟨by rfl, ?gy122⟩) (by assumption) ?gr122
                case gy122 => (intro W9 hW9; obtain ⟨k0, k1, k2, k3, k4⟩ := hW9; first | (go_simp; done) | (go_simp; with_reducible rfl))
                simp only [Act.put, List.getElem_toArray, List.getElem_cons_succ, List.getElem_cons_zero, List.setIfInBounds_toArray, List.set_cons_zero, List.set_cons_succ]
                refine goes_take (i := 4) (v := ?gv123) rfl (by kernel_rfl) (by kernel_rfl) (by kernel_rfl) (by kernel_rfl) (fun _ _ _ h => h) (Or.inl ⟨by rfl, ?gy123⟩) (by assumption) ?gr123
                case gy123 => (intro W9 hW9; obtain ⟨k0, k1, k2, k3, k4⟩ := hW9; first | (go_simp; done) | (go_simp; with_reducible rfl))
                simp only [Act.put, List.getElem_toArray, List.getElem_cons_succ, List.getElem_cons_zero, List.setIfInBounds_toArray, List.set_cons_zero, List.set_cons_succ]
                refine goes_take (i := 5) (v := ?gv124) rfl (by kernel_rfl) (by kernel_rfl) (by kernel_rfl) (by kernel_rfl) (fun _ _ _ h => h) (Or.inl ⟨by rfl, ?gy124⟩) (by assumption) ?gr124
                case gy124 => (intro W9 hW9; obtain ⟨k0, k1, k2, k3, k4⟩ := hW9; first | (go_simp; done) | (go_simp; with_reducible rfl))
                simp only [Act.put, List.getElem_toArray, List.getElem_cons_succ, List.getElem_cons_zero, List.setIfInBounds_toArray, List.set_cons_zero, List.set_cons_succ]
                refine goes_take (i := 7) (v := ?gv125) rfl (by kernel_rfl) (by kernel_rfl) (by kernel_rfl) (by kernel_rfl) (fun _ _ _ h => h) (Or.inl ⟨by rfl, ?gy125⟩) (by assumption) ?gr125
                case gy125 => (intro W9 hW9; obtain ⟨k0, k1, k2, k3, k4⟩ := hW9; first | (go_simp; done) | (go_simp; with_reducible rfl))
                simp only [Act.put, List.getElem_toArray, List.getElem_cons_succ, List.getElem_cons_zero, List.setIfInBounds_toArray, List.set_cons_zero, List.set_cons_succ]
                refine goes_one (i := 6) (by kernel_rfl) rfl (fun K9 hK9 => ?_)
                go_simp
                refine HC3.out.mono ?_
                rintro e w5 ⟨a6, n6, c6, L6, rfl, hr6, he6, ho6, hm6⟩
                obtain ⟨k0, k1, k2, k3, k4⟩ := hHeld
                refine hK9.out _ _ (fun _ => ⟨cell_outM hmd ho6 k0, cell_outM hmd ho6 k1, cell_outM hmd ho6 k2, cell_outM hmd ho6 k3, cell_outM hmd ho6 k4⟩) (fun hHeld => ?_)
                have hHeld := hHeld (by decide)
                clear hK9 K9 k0 k1 k2 k3 k4
                have hv5 := HV3.out.call ho6 hm6
                have hr9 : Rn w5 (fun _ => False) (.slice a9 T.length c9) T := by
                  obtain ⟨v8, hs8⟩ := hv5.var.set
                  have h1 := hs8.cell
                  rw [hHeld.2.2.2.2] at h1
                  cases h1
                  exact (hv5.var.rn hs8).weak fun _ _ h => h.elim
                refine goes_one (i := 8) (by kernel_rfl) rfl (fun K9 hK9 => ?_)
                go_simp
                refine (minus_any (.slice a6 n6 c6) (.slice a9 T.length c9) L6 T (fun _ => False) (s.size : Int) _ he6.nrm he6.inn HV2.out.var.nrm HV2.out.var.inn (by omega) (by omega) (hr6.weak fun _ _ h => h.elim) hr9).mono ?_
                rintro e w6 ⟨a7, n7, c7, rfl, hr7, hb7⟩
                obtain ⟨k0, k1, k2, k3, k4⟩ := hHeld
                refine hK9.out _ _ (fun _ => ⟨cell_below hb7 k0, cell_below hb7 k1, cell_below hb7 k2, cell_below hb7 k3, cell_below hb7 k4⟩) (fun hHeld => ?_)
                clear hK9 K9 k0 k1 k2 k3 k4 hHeld hr9
                have hv6 := hv5.below hb7
                obtain ⟨u6, hu6⟩ := hv6.box
                have hc6 := box_cell hu6
                have hf6 := frozen_row (j := 0) hu6
                refine goes_one (i := 9) (by kernel_rfl) rfl (fun K9 hK9 => ?_)
                go_simp
                refine hK9.out _ _ (fun h => absurd rfl h) (fun _ => ?_)
                clear hK9 K9
                refine goes_done (by kernel_rfl) ?_ _
                obtain ⟨hv7, hown7⟩ := hv6.set (.slice a7 n7 c7)
                have hr8 : Rn (w6.setCell ⟨nf, 0, none⟩ (.slice a7 n7 c7)) (Bad bp (Yn (Loc X N (N + 1 + 1 + 1 + 1)) nf) (w6.setCell ⟨nf, 0, none⟩ (.slice a7 n7 c7))) (.slice a7 n7 c7) (minusR L6 T) := by
                  have hown6 : ownAt w6 bp = ownAt w5 bp := ownAt_below hb7 hv5.var.size
                  refine (hr7.out (Out.set (X := fun k => k = nf) w6 0 _ rfl) (fun k _ e => ?_)).weak fun k _ h => ?_
                  · have e : k = nf := e
                    rw [e]; exact hv5.lt
                  · exact hv5.fit k ((Bad.own hown6 k).1 ((Bad.own hown7 k).1 h))
                have ho7 : Out (fun k => Xm mb k ∨ bp ≤ k) wr (w6.setCell ⟨nf, 0, none⟩ (.slice a7 n7 c7)) := ((((Out.below (X := Xm mb) hb3d).trans ho6).trans (Out.below hb7)).mono fun _ _ h => .inl h).comp (Out.set (X := fun k => k = nf) w6 0 _ rfl) fun k _ e => .inr (by have e : k = nf := e; have := hv5.far; omega)
                have hcn7 := box_cell (box_set hu6 (.slice a7 n7 c7))
                have hLX := he6.2.2
                have HJ9 := Lib.hid (hv7.join hr8 (Nrm.minus L6 HV2.out.var.nrm) (he6.inn.minus HV2.out.var.nrm) hsz)
                have HBX7 := Lib.hid (box_set hu6 (.slice a7 n7 c7))
                have HV7 := Lib.hid hv7
                have HO7 := Lib.hid ho7
                have HLX := Lib.hid hLX
                have HNI := Lib.hid (And.intro (Nrm.minus L6 HV2.out.var.nrm) (he6.inn.minus HV2.out.var.nrm))
                have hw15 : IntKind.i64.wrap ((lo : Int) + e + 1) = (lo : Int) + e + 1 := by rw [IntKind.wrap_i64]; omega
                clear hmd hr6 he6 ho6 hm6 hv5 hr7 hb7 hv6 hu6 hc6 hf6 hv7 hr8 ho7 hLX hown7 hown3 e0 e1 e2 e3 e4 hb3 hb3d
                go_wp2_with (go_at_call 58; refine HJ9.out.mono ?_; rintro e w8 ⟨rfl, hv8, ho8, hr8⟩)
                go_roundw
                case rel =>
                  refine ⟨e + 1, _, joinR T (minusR L6 T), minusR L6 T, by simp; omega, by omega, by omega, ?_, hv8, hr8, HNI.out.1, HNI.out.2, HBFS.out.step (fun i j => row_mono s p.kids i j) HFI.out HV2.out.var.nrm HLX.out, ?_⟩
                  · refine (ho8.block nf HV7.out.lt ?_).trans HBX7.out
                    have hfar := HV7.out.far
                    rintro (h | h)
                    · omega
                    · exact HV7.out.own h
                  · refine (HOR.out.trans HO7.out).comp ho8 fun k _ h => ?_
                    rcases h with h | h
                    · exact .inr (by omega)
                    · obtain ⟨v7, hs7⟩ := HV7.out.var.set
                      rw [hs7.ownAt] at h
                      have := (hs7.own h).1
                      exact .inr (by omega)
                case measure => simp [intOf]; omega
            · have hd2 : decide (((lo + e : Nat) : Int) < p.hi) = false := by simpa using hkh
              obtain ⟨z1, z2, z3, HPF⟩ := FIN.out wr (Below.refl _ _) (.inr ⟨by omega, by rw [HLO.out]; omega⟩)
              go_wp2
              exact bodyPost_ret (v := .agg #[.slice a9 T.length c9]) (by simp [results, Tryd.results46, go_sem, *]) rfl HPF.out
      · obtain ⟨hhi, q, hkids, hq0⟩ := repB_true hrep
        have HHI := Lib.hid hhi
        have htl := TreeL.out HOW.out HTL.out
        rw [hkids, TreeL] at htl
        obtain ⟨b0, bs', rfl, htq, hnil⟩ := htl
        rw [TreeL] at hnil
        subst hnil
        rw [TreeP_eq] at htq
        obtain ⟨ks0, kn0, bs0, hpq, hmq, -, -, -⟩ := htq
        obtain ⟨g1, g2, g3, g4⟩ := part_set hpq
        obtain ⟨kb, ko, cap, e, hx⟩ := (HKS.out.out HOW.out).at (i := 0) (by simp)
        cases e
        simp only [List.getElem_cons_zero, Nat.add_zero] at hx
        have HKI := Lib.hid hkids
        have HQ0 := Lib.hid hq0
        have HPQ := Lib.hid hpq
        clear hkids hq0 hpq hhi
        go_wp2_with (go_at_call 60; refine (repeats_any mb p rep b wc HTC.out).mono ?_; rw [hrep]; rintro e w2 ⟨rfl, hw2⟩; obtain rfl := hw2.symm)
        have e0 : wc.drew.cell? ⟨N, 0, none⟩ = some rv := c0
        have e1 : wc.drew.cell? ⟨N, 1, none⟩ = some (.string s) := c1
        have e2 : wc.drew.cell? ⟨b, 7, none⟩ = some (.slice (some ⟨kb, ko, none⟩) [b0].length kc) := q7
        have e3 : wc.drew.cell? ⟨kb, ko, none⟩ = some (pV b0) := hx
        have e4 : wc.drew.cell? ⟨b0, 1, none⟩ = some (.int .u64 (wd q.set 0)) := g1
        have e5 : wc.drew.cell? ⟨b0, 1 + 1, none⟩ = some (.int .u64 (wd q.set 1)) := g2
        have e6 : wc.drew.cell? ⟨b0, 1 + 2, none⟩ = some (.int .u64 (wd q.set 2)) := g3
        have e7 : wc.drew.cell? ⟨b0, 1 + 3, none⟩ = some (.int .u64 (wd q.set 3)) := g4
        have e8 : wc.drew.cell? ⟨N + 1 + 1 + 1, 0, none⟩ = some (.slice a5 J0.length c5) := hc3
        have HC := Lib.hid (HS.out mb _ wc.drew (.slice a5 J0.length c5) rv J0 q.set (HP0.out.below ((Below.refl _ wc).drew)))
        clear c0 c1 q7 hx g1 g2 g3 g4 hc3 q5 q6
        simp only [List.length_cons, List.length_nil, Nat.zero_add] at e2
        refine region_goes 12 13 rfl (fun W => W.cell? ⟨N, 0, none⟩ = some rv ∧ W.cell? ⟨N, 1, none⟩ = some (.string s) ∧ W.cell? ⟨b, 7, none⟩ = some (.slice (some ⟨kb, ko, none⟩) 1 kc) ∧ W.cell? ⟨kb, ko, none⟩ = some (pV b0) ∧ W.cell? ⟨b0, 1, none⟩ = some (.int .u64 (wd q.set 0)) ∧ W.cell? ⟨b0, 1 + 1, none⟩ = some (.int .u64 (wd q.set 1)) ∧ W.cell? ⟨b0, 1 + 2, none⟩ = some (.int .u64 (wd q.set 2)) ∧ W.cell? ⟨b0, 1 + 3, none⟩ = some (.int .u64 (wd q.set 3)) ∧ W.cell? ⟨N + 1 + 1 + 1, 0, none⟩ = some (.slice a5 J0.length c5)) mixed ⟨e0, e1, e2, e3, e4, e5, e6, e7, e8⟩ (fun hHeld => ?_)
        refine goes_take (i := 0) (v := ?gv101) rfl (by kernel_rfl) (by kernel_rfl) (by kernel_rfl) (by kernel_rfl) (fun _ _ _ h => h) (Or.inl ⟨by rfl, ?gy101⟩) (by assumption) ?gr101
        case gy101 => (intro W9 hW9; obtain ⟨k0, k1, k2, k3, k4, k5, k6, k7, k8⟩ := hW9; first | (go_simp; done) | (go_simp; with_reducible rfl))
        simp only [Act.put, List.getElem_toArray, List.getElem_cons_succ, List.getElem_cons_zero, List.setIfInBounds_toArray, List.set_cons_zero, List.set_cons_succ]
        refine goes_take (i := 1) (v := ?gv102) rfl (by kernel_rfl) (by kernel_rfl) (by kernel_rfl) (by kernel_rfl) (fun _ _ _ h => h) (Or.inl ⟨by rfl, ?gy102⟩) (by assumption) ?gr102
        case gy102 => (intro W9 hW9; obtain ⟨k0, k1, k2, k3, k4, k5, k6, k7, k8⟩ := hW9; first | (go_simp; done) | (go_simp; with_reducible rfl))
        simp only [Act.put, List.getElem_toArray, List.getElem_cons_succ, List.getElem_cons_zero, List.setIfInBounds_toArray, List.set_cons_zero, List.set_cons_succ]
        refine goes_take (i := 2) (v := ?gv103) rfl (by kernel_rfl) (by kernel_rfl) (by kernel_rfl) (by kernel_rfl) (fun _ _ _ h => h) (Or.inl ⟨by rfl, ?gy103⟩) (by assumption) ?gr103
        case gy103 => (intro W9 hW9; obtain ⟨k0, k1, k2, k3, k4, k5, k6, k7, k8⟩ := hW9; first | (go_simp; done) | (go_simp; with_reducible rfl))
        simp only [Act.put, List.getElem_toArray, List.getElem_cons_succ, List.getElem_cons_zero, List.setIfInBounds_toArray, List.set_cons_zero, List.set_cons_succ]
        refine goes_take (i := 3) (v := ?gv104) rfl (by kernel_rfl) (by kernel_rfl) (by kernel_rfl) (by kernel_rfl) (fun _ _ _ h => h) (Or.inl ⟨by rfl, ?gy104⟩) (by assumption) ?gr104
        case gy104 => (intro W9 hW9; obtain ⟨k0, k1, k2, k3, k4, k5, k6, k7, k8⟩ := hW9; first | (go_simp; done) | (go_simp; with_reducible rfl))
        simp only [Act.put, List.getElem_toArray, List.getElem_cons_succ, List.getElem_cons_zero, List.setIfInBounds_toArray, List.set_cons_zero, List.set_cons_succ]
        refine goes_take (i := 4) (v := ?gv105) rfl (by kernel_rfl) (by kernel_rfl) (by kernel_rfl) (by kernel_rfl) (fun _ _ _ h => h) (Or.inl ⟨by rfl, ?gy105⟩) (by assumption) ?gr105
        case gy105 => (intro W9 hW9; obtain ⟨k0, k1, k2, k3, k4, k5, k6, k7, k8⟩ := hW9; first | (go_simp; done) | (go_simp; with_reducible rfl))
        simp only [Act.put, List.getElem_toArray, List.getElem_cons_succ, List.getElem_cons_zero, List.setIfInBounds_toArray, List.set_cons_zero, List.set_cons_succ]
        refine goes_take (i := 5) (v := ?gv106) rfl (by kernel_rfl) (by kernel_rfl) (by kernel_rfl) (by kernel_rfl) (fun _ _ _ h => h) (Or.inl ⟨by rfl, ?gy106⟩) (by assumption) ?gr106
        case gy106 => (intro W9 hW9; obtain ⟨k0, k1, k2, k3, k4, k5, k6, k7, k8⟩ := hW9; first | (go_simp; done) | (go_simp; with_reducible rfl))
        simp only [Act.put, List.getElem_toArray, List.getElem_cons_succ, List.getElem_cons_zero, List.setIfInBounds_toArray, List.set_cons_zero, List.set_cons_succ]
        refine goes_take (i := 6) (v := ?gv107) rfl (by kernel_rfl) (by kernel_rfl) (by kernel_rfl) (by kernel_rfl) (fun _ _ _ h => h) (Or.inl ⟨by rfl, ?gy107⟩) (by assumption) ?gr107
        case gy107 => (intro W9 hW9; obtain ⟨k0, k1, k2, k3, k4, k5, k6, k7, k8⟩ := hW9; first | (go_simp; done) | (go_simp; with_reducible rfl))
        simp only [Act.put, List.getElem_toArray, List.getElem_cons_succ, List.getElem_cons_zero, List.setIfInBounds_toArray, List.set_cons_zero, List.set_cons_succ]
        refine goes_take (i := 7) (v := ?gv108) rfl (by kernel_rfl) (by kernel_rfl) (by kernel_rfl) (by kernel_rfl) (fun _ _ _ h => h) (Or.inl ⟨by rfl, ?gy108⟩) (by assumption) ?gr108
        case gy108 => (intro W9 hW9; obtain ⟨k0, k1, k2, k3, k4, k5, k6, k7, k8⟩ := hW9; first | (go_simp; done) | (go_simp; with_reducible rfl))
        simp only [Act.put, List.getElem_toArray, List.getElem_cons_succ, List.getElem_cons_zero, List.setIfInBounds_toArray, List.set_cons_zero, List.set_cons_succ]
        refine goes_take (i := 8) (v := ?gv109) rfl (by kernel_rfl) (by kernel_rfl) (by kernel_rfl) (by kernel_rfl) (fun _ _ _ h => h) (Or.inl ⟨by rfl, ?gy109⟩) (by assumption) ?gr109
        case gy109 => (intro W9 hW9; obtain ⟨k0, k1, k2, k3, k4, k5, k6, k7, k8⟩ := hW9; first | (go_simp; done) | (go_simp; with_reducible rfl))
        simp only [Act.put, List.getElem_toArray, List.getElem_cons_succ, List.getElem_cons_zero, List.setIfInBounds_toArray, List.set_cons_zero, List.set_cons_succ]
        refine goes_take (i := 9) (v := ?gv110) rfl (by kernel_rfl) (by kernel_rfl) (by kernel_rfl) (by kernel_rfl) (fun _ _ _ h => h) (Or.inl ⟨by rfl, ?gy110⟩) (by assumption) ?gr110
        case gy110 => (intro W9 hW9; obtain ⟨k0, k1, k2, k3, k4, k5, k6, k7, k8⟩ := hW9; first | (go_simp; done) | (go_simp; with_reducible rfl))
        simp only [Act.put, List.getElem_toArray, List.getElem_cons_succ, List.getElem_cons_zero, List.setIfInBounds_toArray, List.set_cons_zero, List.set_cons_succ]
        refine goes_take (i := 10) (v := ?gv111) rfl (by kernel_rfl) (by kernel_rfl) (by kernel_rfl) (by kernel_rfl) (fun _ _ _ h => h) (Or.inl ⟨by rfl, ?gy111⟩) (by assumption) ?gr111
        case gy111 => (intro W9 hW9; obtain ⟨k0, k1, k2, k3, k4, k5, k6, k7, k8⟩ := hW9; first | (go_simp; done) | (go_simp; with_reducible rfl))
        simp only [Act.put, List.getElem_toArray, List.getElem_cons_succ, List.getElem_cons_zero, List.setIfInBounds_toArray, List.set_cons_zero, List.set_cons_succ]
        refine goes_one (i := 11) (by kernel_rfl) rfl (fun K9 hK9 => ?_)
        go_simp
        refine HC.out.mono ?_
        rintro e w4 ⟨a6, n6, c6, L6, rfl, hr6, he6, ho6, hm6⟩
        obtain ⟨k0, k1, k2, k3, k4, k5, k6, k7, k8⟩ := hHeld
        have hmd := (HP0.out.below ((Below.refl _ wc).drew)).memo
        have ho36 : Out (Xm mb) wc w4 := (Out.refl _ wc).drew.trans ho6
        refine hK9.out _ _ (fun _ => ?_) (fun hHeld => ?_)
        · exact ⟨cell_outM hmd ho6 k0, cell_outM hmd ho6 k1, cell_outM hmd ho6 k2, cell_outM hmd ho6 k3, cell_outM hmd ho6 k4, cell_outM hmd ho6 k5, cell_outM hmd ho6 k6, cell_outM hmd ho6 k7, cell_outM hmd ho6 k8⟩
        clear hK9 K9 hHeld k0 k1 k2 k3 k4 k5 k6 k7 k8
        have hr9 := (ho36.block (N + 1 + 1) (by omega) (fun h => h HM.out.2.2.1)).trans HR2.out
        have hc9 := box_cell hr9
        have hf9 := frozen_row (j := 0) hr9
        refine goes_one (i := 12) (by kernel_rfl) rfl (fun K9 hK9 => ?_)
        go_simp
        refine hK9.out _ _ (fun h => absurd rfl h) (fun _ => ?_)
        clear hK9 K9
        refine goes_done (by kernel_rfl) ?_ _
        have hRR : rowM s p.kids = byteR s q.set := by
          rw [HKI.out]
          funext i j
          exact propext ((rowM_one s q i j).trans (M_set HQ0.out i j))
        have hF := fin_post (R := p.M s) (r0 := N + 1 + 1) (B := N + 1 + 1 + 1 + 1) HP.out (HOW.out.trans ho36) hN rfl hr6 ⟨he6.nrm, he6.inn, fun x => by
          rw [he6.2.2, ← hRR]
          constructor
          · rintro ⟨m, h1, d, h2⟩
            obtain ⟨i, h3, h4⟩ := (HJ0.out m).1 h1
            have hi := HP.out.inn i h3
            exact ⟨i, h3, (least_spec s p HOP.out HNUM.out i x hi.1 hi.2).2 ⟨lo + d, by rw [HLO.out]; omega, .inl HHI.out, (Pw_add _ _ _ _ _).2 ⟨m, h4, h2⟩⟩⟩
          · rintro ⟨i, h3, h4⟩
            have hi := HP.out.inn i h3
            obtain ⟨k, h5, h6, h7⟩ := (least_spec s p HOP.out HNUM.out i x hi.1 hi.2).1 h4
            rw [HLO.out] at h5
            rw [show k = lo + (k - lo) by omega, Pw_add] at h7
            obtain ⟨m, h8, h9⟩ := h7
            exact ⟨m, (HJ0.out m).2 ⟨i, h3, h8⟩, k - lo, h9⟩⟩ hm6 (by omega) (by omega) HM.out.2.2.1
        have HF := Lib.hid hF
        clear hF
        go_wp2
        exact bodyPost_ret (v := .agg #[.slice a6 n6 c6]) (by simp [results, Tryd.results46, go_sem, *]) rfl HF.out
end Go.Proofs.YtooaamepflkgnaaDoor
