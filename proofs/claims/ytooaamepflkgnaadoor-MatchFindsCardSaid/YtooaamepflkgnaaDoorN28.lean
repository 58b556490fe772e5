/- Texts that a proof rests on: The contract of both. | The contract of repeatsBytes. | What the loops of a repetition collect. | A set that grows, and a variable beside it. -/
import Derived.Test.YtooaamepflkgnaaDoorN27
import Derived.Test.YtooaamepflkgnaaDoorN15
import Derived.Test.YtooaamepflkgnaaDoorN22
set_option maxRecDepth 100000
namespace Go.Proofs.YtooaamepflkgnaaDoor
open Go.RowKit

theorem EndsOf.nrm {s : ByteArray} {R : Int → Int → Prop} {K L : List (Int × Int)} (h : EndsOf s R K L) : Nrm L := h.1
theorem EndsOf.inn {s : ByteArray} {R : Int → Int → Prop} {K L : List (Int × Int)} (h : EndsOf s R K L) : In s.size L := h.2.1
theorem allM_take (s : ByteArray) (l : List Pat) (k : Nat) (h : k < l.length) (i x : Int) : allM s (l.take (k + 1)) i x ↔ allM s (l.take k) i x ∧ l[k].M s i x := by
  rw [take_step l k h]
  simp only [allM_iff, List.mem_append, List.mem_singleton]
  exact ⟨fun H => ⟨fun p hp => H p (.inl hp), H _ (.inr rfl)⟩, fun H p hp => by rcases hp with hp | rfl; exact H.1 p hp; exact H.2⟩
theorem Pre.plus {s : ByteArray} {mb : Nat → Option Pat} {X : Nat → Prop} {v : Value} {K : List (Int × Int)} {w w1 : World} {nt : Nat} (h : Pre s mb X v K w) (hn : w.heap.size = nt) (hb : Below w.heap.size w w1) (h1 : nt < w1.heap.size) : Pre s mb (fun k => X k ∨ k = nt) v K w1 := by
  have hx : ∀ k, k < w.heap.size → (X k ∨ k = nt) → X k := fun k hk h => by
    rcases h with h | h
    · exact h
    · omega
  exact ⟨h.sz, fun k hk => .inl (h.xm k hk), fun k hk => by
      rcases hk with e | e
      · have := h.lt k e; have := hb.size; omega
      · omega, (h.rn.weak hx).below hb, h.nrm, h.inn, (h.memo.weak hx).below hb⟩
set_option linter.unusedSimpArgs false in
set_option maxHeartbeats 4000000 in
theorem both_any (s : ByteArray) (mb : Nat → Option Pat) (p : Pat) (rep : Bool) (b : Nat) (rv : Value) (i : Int) (hop : p.op = 4) (hE : ∀ q ∈ p.kids, ∀ rep b, EndsC s mb q rep b) (hl5 : p.kids.length < 10000)
    (X : Nat → Prop) (w : World) (v : Value) (hp : Pre s mb X v [(i, i)] w) (ht : TreeP w mb p rep b) :
    Calls Tryd.prog 48 #[mV rv s, pV b, .agg #[v]] w (Post s mb X (p.M s) [(i, i)] w) := by
  obtain ⟨a, c, rfl⟩ := hp.rn.len
  have hsz := hp.sz
  have hi : 0 ≤ i ∧ i ≤ s.size := hp.inn i ⟨(i, i), by simp, by simp, by simp⟩
  rw [TreeP_eq] at ht
  obtain ⟨ks, kn, bs, hpb, hmb, -, hks, htl⟩ := ht
  obtain ⟨ka, kc, rfl⟩ := hks.form
  obtain ⟨hlen, htree⟩ := TreeL_at htl
  obtain ⟨N, hN⟩ : ∃ N, w.heap.size = N := ⟨_, rfl⟩
  obtain ⟨hb1, hsz1, h0, h1, h2⟩ := three_boxes w #[rv, .string s] #[.slice a [(i, i)].length c] #[.slice none 0 0] 53 61 61 N hN
  obtain ⟨w1, hw1⟩ : ∃ w1, w1 = ((w.alloc (.cells #[rv, .string s] 53)).alloc (.cells #[.slice a [(i, i)].length c] 61)).alloc (.cells #[.slice none 0 0] 61) := ⟨_, rfl⟩
  rw [← hw1] at hb1 hsz1 h0 h1 h2
  have hb1' : Below w.heap.size w w1 := by rw [hN]; exact hb1
  have hm0 : mb N = none := hp.new_none (by omega)
  have hm1 : mb (N + 1) = none := hp.new_none (by omega)
  have hm2 : mb (N + 1 + 1) = none := hp.new_none (by omega)
  have hr1 := hp.rn.below hb1'
  have hbl : bs.length < 10000 := by omega
  have HP := Lib.hid hp
  have HB1 := Lib.hid hb1'
  have HKS := Lib.hid hks
  have HT := Lib.hid htree
  have HE := Lib.hid hE
  have HL := Lib.hid hlen
  have H0 := Lib.hid h0
  have H1 := Lib.hid h1
  have H2 := Lib.hid h2
  have HR1 := Lib.hid hr1
  have HPB := Lib.hid hpb
  have HW1 := Lib.hid hw1
  have hbr : b ≠ N + 1 + 1 := by have := lt_of_block hpb; omega
  have hss : (0 : Int) ≤ s.size := by omega
  have hss5 : (s.size : Int) ≤ 5000 := by omega
  clear hp hb1' hb1 hks htl htree hE hlen h0 h1 h2 hpb hr1 hl5 hw1
  simp only [List.length_cons, List.length_nil, Nat.zero_add] at HW1 H1 HR1 HP ⊢
  go_enter Tryd.func48, Tryd.ntmps48
  go_wp2_with (go_at_call 63; rw [← HW1.out]; refine (upToEnd_any s i (.slice a 1 c) rv _ w1 hsz hi HR1.out).mono ?_; rintro e w3 ⟨a3, n3, c3, rfl, hr3, hb3⟩; have hpb3 := ((HB1.out.trans (hb3.mono HB1.out.size)).block b (lt_of_block HPB.out)).trans HPB.out; obtain ⟨q0, q5, q6, q7, q8⟩ := part_cells hpb3; have q77 := cell_below (below_one w3 (.cells #[.slice a3 n3 c3] 61)) q7)
  obtain ⟨nt, hnt⟩ : ∃ nt, w3.heap.size = nt := ⟨_, rfl⟩
  obtain ⟨w4, hw4⟩ : ∃ w4, w3.alloc (.cells #[.slice a3 n3 c3] 61) = w4 := ⟨_, rfl⟩
  have hs13 := hb3.size
  have hb34 : Below w3.heap.size w3 w4 := by rw [← hw4]; exact below_one w3 _
  have hsz4 : w4.heap.size = nt + 1 := by rw [← hw4]; simp [hnt]
  have hbt4 : w4.heap[nt]? = some (.cells #[.slice a3 n3 c3] 61 (0, 0)) := by rw [← hw4, ← hnt]; exact heap_alloc_new w3 _
  have hbw3 : Below w.heap.size w w3 := HB1.out.trans (hb3.mono HB1.out.size)
  have hbw4 : Below w.heap.size w w4 := hbw3.trans (hb34.mono hbw3.size)
  have hp4 := (HP.out.loc hbw3 (N := N) (B := N + 1 + 1 + 1) hN (by omega)).plus hnt hb34 (by omega)
  have hmt : mb nt = none := HP.out.new_none (by omega)
  have hr4 : Rn w4 (fun k => Loc X N (N + 1 + 1 + 1) k ∨ k = nt) (.slice a3 n3 c3) [(i, (s.size : Int))] := (hr3.weak fun k hk h => by
    show k < w1.heap.size
    rcases h with (h | h) | h
    · have := HP.out.lt k h; omega
    · omega
    · omega).below hb34
  have h04 := ((hb3.trans (hb34.mono hs13)).block N (by omega)).trans H0.out
  have h14 := ((hb3.trans (hb34.mono hs13)).block (N + 1) (by omega)).trans H1.out
  have h24 := ((hb3.trans (hb34.mono hs13)).block (N + 1 + 1) (by omega)).trans H2.out
  have HP4 := Lib.hid hp4
  have HBT4 := Lib.hid hbt4
  have HR4 := Lib.hid hr4
  have H04 := Lib.hid h04
  have H14 := Lib.hid h14
  have H24 := Lib.hid h24
  have HBW4 := Lib.hid hbw4
  have hXt : (fun k => Loc X N (N + 1 + 1 + 1) k ∨ k = nt) nt := .inr rfl
  have mixed : Tryd.prog.follows .mixedOrders = true := by kernel_rfl
  rw [hw4, hnt]
  clear hw4 hp4 hbt4 hr4 h04 h14 h24 hbw3 hbw4 hb34 hr3 hpb3 q0 q5 q6 q7 q8 q77
  go_loopw [18] (fun x wr => ∃ (k : Nat) (u : Value) (J : List (Int × Int)), x = .int .i64 k ∧ k ≤ bs.length ∧ wr.heap[nt]? = some (.cells #[u] 61 (0, 0)) ∧ Rn wr (fun k => Loc X N (N + 1 + 1 + 1) k ∨ k = nt) u J ∧ Nrm J ∧ In s.size J ∧ (∀ x, mem J x ↔ (i ≤ x ∧ x ≤ s.size) ∧ allM s (p.kids.take k) i x) ∧ FrameM s mb (fun k => Loc X N (N + 1 + 1 + 1) k ∨ k = nt) nt w4 wr) (fun x _ => bs.length - (intOf x).toNat)
  case atStart => exact ⟨0, _, _, rfl, Nat.zero_le _, HBT4.out, HR4.out, .one hi.2, fun x hx => by have := (one_run _ _ x).1 hx; omega, fun x => by rw [one_run]; simp [allM], ⟨Out.refl _ _, HP4.out.memo⟩⟩
  case round =>
    obtain ⟨k, u, J, rfl, hk, hbu, hru, hJN, hJI, hJ, hfr⟩ := hrel
    have how : Out (Xm mb) w wr := hfr.from HBW4.out (by omega)
    have hpr := hfr.pre HP4.out hXt
    have h0r := (hfr.out.block N (by omega) (by rintro (h | h); exact h hm0; omega)).trans H04.out
    have h1r := (hfr.out.block (N + 1) (by omega) (by rintro (h | h); exact h hm1; omega)).trans H14.out
    have h2r := (hfr.out.block (N + 1 + 1) (by omega) (by rintro (h | h); exact h hm2; omega)).trans H24.out
    obtain ⟨a5, c5, rfl⟩ := hru.len
    have HBU := Lib.hid hbu
    have HRU := Lib.hid hru
    have HJN := Lib.hid hJN
    have HJI := Lib.hid hJI
    have HJ := Lib.hid hJ
    have HFR := Lib.hid hfr
    have HOW := Lib.hid how
    have HPR := Lib.hid hpr
    have H2R := Lib.hid h2r
    clear hru hJN hJI hJ hfr how hpr h2r
    by_cases hkl : k < bs.length
    · obtain ⟨kb, ko, cap, e, hx⟩ := (HKS.out.out HOW.out).at hkl
      cases e
      have hkl' : k < p.kids.length := by rw [← HL.out]; exact hkl
      have HC := Lib.hid (HE.out p.kids[k] (List.getElem_mem hkl') _ _ _ wr.drew (.slice a 1 c) rv [(i, i)] (HPR.out.below ((Below.refl _ wr).drew)) (TreeP.out (HOW.out.drew) _ (HT.out k hkl' hkl)))
      have HTK := Lib.hid (fun x => allM_take s p.kids k hkl' i x)
      generalize hbk : bs[k] = bk at hx HC
      obtain ⟨d0, d1⟩ := pair_cells h0r
      have e0 : wr.drew.cell? ⟨N, 0, none⟩ = some rv := d0
      have e1 : wr.drew.cell? ⟨N, 1, none⟩ = some (.string s) := d1
      have e2 : wr.drew.cell? ⟨N + 1, 0, none⟩ = some (.slice a 1 c) := box_cell h1r
      have e3 : wr.drew.cell? ⟨nt, 0, none⟩ = some (.slice a5 J.length c5) := box_cell hbu
      clear h0r h1r hbu
      go_wp2
      refine region_goes 8 9 rfl (fun W => W.cell? ⟨N, 0, none⟩ = some rv ∧ W.cell? ⟨N, 1, none⟩ = some (.string s) ∧ W.cell? ⟨N + 1, 0, none⟩ = some (.slice a 1 c) ∧ W.cell? ⟨nt, 0, none⟩ = some (.slice a5 J.length c5)) mixed ⟨e0, e1, e2, e3⟩ (fun hHeld => ?_)
      refine goes_take (i := 0) (v := ?gv1) rfl (by kernel_rfl) (by kernel_rfl) (by kernel_rfl) (by kernel_rfl) (fun _ _ _ h => h) (Or.inl ⟨by rfl, ?gy1⟩) (by assumption) ?gr1
      case gy1 => (intro W9 hW9; obtain ⟨k0, k1, k2, k3⟩ := hW9; first | (go_simp; done) | (go_simp; with_reducible rfl))
      simp only [Act.put, List.getElem_toArray, List.getElem_cons_succ, List.getElem_cons_zero, List.setIfInBounds_toArray, List.set_cons_zero, List.set_cons_succ]
      refine goes_take (i := 1) (v := ?gv2) rfl (by kernel_rfl) (by kernel_rfl) (by kernel_rfl) (by kernel_rfl) (fun _ _ _ h => h) (Or.inl ⟨by rfl, ?gy2⟩) (by assumption) ?gr2
      case gy2 => (intro W9 hW9; obtain ⟨k0, k1, k2, k3⟩ := hW9; first | (go_simp; done) | (go_simp; with_reducible rfl))
      simp only [Act.put, List.getElem_toArray, List.getElem_cons_succ, List.getElem_cons_zero, List.setIfInBounds_toArray, List.set_cons_zero, List.set_cons_succ]
      refine goes_take (i := 2) (v := ?gv3) rfl (by kernel_rfl) (by kernel_rfl) (by kernel_rfl) (by kernel_rfl) (fun _ _ _ h => h) (Or.inl ⟨by rfl, ?gy3⟩) (by assumption) ?gr3
      case gy3 => (intro W9 hW9; obtain ⟨k0, k1, k2, k3⟩ := hW9; first | (go_simp; done) | (go_simp; with_reducible rfl))
      simp only [Act.put, List.getElem_toArray, List.getElem_cons_succ, List.getElem_cons_zero, List.setIfInBounds_toArray, List.set_cons_zero, List.set_cons_succ]
      refine goes_take (i := 3) (v := ?gv4) rfl (by kernel_rfl) (by kernel_rfl) (by kernel_rfl) (by kernel_rfl) (fun _ _ _ h => h) (Or.inl ⟨by rfl, ?gy4⟩) (by assumption) ?gr4
      case gy4 => (intro W9 hW9; obtain ⟨k0, k1, k2, k3⟩ := hW9; first | (go_simp; done) | (go_simp; with_reducible rfl))
      simp only [Act.put, List.getElem_toArray, List.getElem_cons_succ, List.getElem_cons_zero, List.setIfInBounds_toArray, List.set_cons_zero, List.set_cons_succ]
      refine goes_take (i := 4) (v := ?gv5) rfl (by kernel_rfl) (by kernel_rfl) (by kernel_rfl) (by kernel_rfl) (fun _ _ _ h => h) (Or.inl ⟨by rfl, ?gy5⟩) (by assumption) ?gr5
      case gy5 => (intro W9 hW9; obtain ⟨k0, k1, k2, k3⟩ := hW9; first | (go_simp; done) | (go_simp; with_reducible rfl))
      simp only [Act.put, List.getElem_toArray, List.getElem_cons_succ, List.getElem_cons_zero, List.setIfInBounds_toArray, List.set_cons_zero, List.set_cons_succ]
      refine goes_one (i := 5) (by kernel_rfl) rfl (fun K9 hK9 => ?_)
      go_simp
      refine HC.out.mono ?_
      rintro e w5 ⟨a6, n6, c6, L6, rfl, hr6, he6, ho6, hm6⟩
      obtain ⟨k0, k1, k2, k3⟩ := hHeld
      have hor5 : Out (Xm mb) wr w5 := (Out.refl _ wr).drew.trans ho6
      refine hK9.out _ _ (fun _ => ⟨ho6.cell k0 (fun h => h hm0), ho6.cell k1 (fun h => h hm0), ho6.cell k2 (fun h => h hm1), ho6.cell k3 (fun h => h hmt)⟩) (fun hHeld => ?_)
      have hHeld := hHeld (by decide)
      clear hK9 K9 k0 k1 k2 k3
      have hru5 := HRU.out.out hor5 (fun k _ h => HPR.out.xm k h)
      refine goes_one (i := 6) (by kernel_rfl) rfl (fun K9 hK9 => ?_)
      go_simp
      refine (minus_any (.slice a5 J.length c5) (.slice a6 n6 c6) J L6 _ (s.size : Int) _ HJN.out HJI.out he6.nrm he6.inn hss hss5 hru5 hr6).mono ?_
      rintro e w6 ⟨a7, n7, c7, rfl, hr7, hb7⟩
      obtain ⟨k0, k1, k2, k3⟩ := hHeld
      refine hK9.out _ _ (fun _ => ⟨cell_below hb7 k0, cell_below hb7 k1, cell_below hb7 k2, cell_below hb7 k3⟩) (fun hHeld => ?_)
      have hHeld := hHeld (by decide)
      clear hK9 K9 k0 k1 k2 k3
      have hru6 := hru5.below hb7
      have hrm6 := hr7.weak (Y := fun k => Loc X N (N + 1 + 1 + 1) k ∨ k = nt) (fun k _ h => Nat.lt_of_lt_of_le (HPR.out.lt k h) hor5.size)
      refine goes_one (i := 7) (by kernel_rfl) rfl (fun K9 hK9 => ?_)
      go_simp
      refine (minus_any (.slice a5 J.length c5) (.slice a7 n7 c7) J (minusR J L6) _ (s.size : Int) _ HJN.out HJI.out (Nrm.minus J he6.nrm) (HJI.out.minus he6.nrm) hss hss5 hru6 hrm6).mono ?_
      rintro e w7 ⟨a8, n8, c8, rfl, hr8, hb8⟩
      obtain ⟨k0, k1, k2, k3⟩ := hHeld
      refine hK9.out _ _ (fun _ => ⟨cell_below hb8 k0, cell_below hb8 k1, cell_below hb8 k2, cell_below hb8 k3⟩) (fun hHeld => ?_)
      clear hK9 K9 k0 k1 k2 k3 hHeld
      have hor7 : Out (Xm mb) wr w7 := (hor5.trans (Out.below hb7)).trans (Out.below hb8)
      have hbt7 := (hor7.block nt (lt_of_block HBU.out) (fun h => h hmt)).trans HBU.out
      have hct7 := box_cell hbt7
      have hft7 := frozen_row (j := 0) hbt7
      refine goes_one (i := 8) (by kernel_rfl) rfl (fun K9 hK9 => ?_)
      go_simp
      refine hK9.out _ _ (fun h => absurd rfl h) (fun _ => ?_)
      clear hK9 K9
      refine goes_done (by kernel_rfl) ?_ _
      have hb87 := hor5.size
      have hb67 := hb7.size
      have hm7 := (hm6.below hb7).below hb8
      have hr9 : Rn (w7.setCell ⟨nt, 0, none⟩ (.slice a8 n8 c8)) (fun k => Loc X N (N + 1 + 1 + 1) k ∨ k = nt) (.slice a8 n8 c8) (minusR J (minusR J L6)) :=
        (hr8.weak (Y := fun k => Loc X N (N + 1 + 1 + 1) k ∨ k = nt) (fun k _ h => Nat.lt_of_lt_of_le (Nat.lt_of_lt_of_le (HPR.out.lt k h) hb87) hb67)).out (Out.set (X := fun k => k = nt) w7 0 _ rfl) (fun k _ e => .inr e)
      have hone : ∀ y, mem [(i, i)] y ↔ y = i := (one_place rfl).2.2.1
      have HF9 := Lib.hid ((HFR.out.next hor7 hm7).set (.inr rfl) hmt (.slice a8 n8 c8))
      have HX9 : Hid (∀ x, mem (minusR J (minusR J L6)) x ↔ (i ≤ x ∧ x ≤ s.size) ∧ allM s (p.kids.take (k + 1)) i x) := Lib.hid fun x => by
        rw [mem_minus J (Nrm.minus J he6.nrm), mem_minus J he6.nrm, HJ.out, he6.2.2, HTK.out]
        simp only [hone, exists_eq_left]
        constructor
        · rintro ⟨⟨h1, h2⟩, h3⟩
          by_cases h4 : p.kids[k].M s i x
          · exact ⟨h1, h2, h4⟩
          · exact absurd ⟨⟨h1, h2⟩, h4⟩ h3
        · rintro ⟨h1, h2, h3⟩
          exact ⟨⟨h1, h2⟩, fun h => h.2 h3⟩
      have HR9 := Lib.hid hr9
      have HN9 := Lib.hid (Nrm.minus J (M := minusR J L6) (Nrm.minus J he6.nrm))
      have HI9 := Lib.hid (HJI.out.minus (M := minusR J L6) (Nrm.minus J he6.nrm))
      have HB9 := Lib.hid (box_set hbt7 (.slice a8 n8 c8))
      clear hr9 hr8 hr7 hr6 he6 ho6 hm6 hm7 hor5 hor7 hb7 hb8 hru5 hru6 hrm6 hbt7 hct7 hft7 hone
      go_wp2
      go_roundw
      case rel => exact ⟨k + 1, _, _, num_succ k, by omega, HB9.out, HR9.out, HN9.out, HI9.out, HX9.out, HF9.out⟩
      case measure => simp [intOf]; omega
    · obtain rfl : k = bs.length := by omega
      have hall : p.kids.take bs.length = p.kids := by rw [HL.out, List.take_length]
      have h9 := H2R.out
      have hc9 := box_cell h9
      have hf9 := frozen_row (j := 0) h9
      have hcu := box_cell hbu
      have hF := fin_post (R := p.M s) (r0 := N + 1 + 1) (B := N + 1 + 1 + 1) HP.out HOW.out hN rfl (HRU.out.weak fun k _ h => .inl h) ⟨HJN.out, HJI.out, fun x => by
        rw [HJ.out, hall]
        simp only [(one_place (rfl : [(i, i)] = [(i, i)])).2.2.1, exists_eq_left]
        rw [M_and hop, and_assoc]⟩ (HFR.out.memo.weak fun k _ h => .inl h) (by omega) (by omega) hm2
      have HF := Lib.hid hF
      clear hF
      go_wp2
      exact bodyPost_ret (v := .agg #[.slice a5 J.length c5]) (by simp [results, Tryd.results48, go_sem, *]) rfl HF.out
end Go.Proofs.YtooaamepflkgnaaDoor
set_option maxRecDepth 100000
namespace Go.Proofs.YtooaamepflkgnaaDoor
open Go.RowKit

/-- A repetition of one Set, as often as may be. -/
def repB (p : Pat) : Bool := decide (p.hi < 0) && (p.kids.length == 1 && (p.kids.map Pat.op).head? == some 0)
set_option linter.unusedSimpArgs false in
set_option maxHeartbeats 2000000 in
theorem repeats_any (mb : Nat → Option Pat) (p : Pat) (rep : Bool) (b : Nat) (w : World) (ht : TreeP w mb p rep b) :
    Calls Tryd.prog 60 #[pV b] w fun e w' => e = .returned (.bool (repB p)) ∧ w' = w := by
  rw [TreeP_eq] at ht
  obtain ⟨ks, kn, bs, hpb, hmb, -, hks, htl⟩ := ht
  obtain ⟨ka, kc, rfl⟩ := hks.form
  obtain ⟨hlen, htree⟩ := TreeL_at htl
  obtain ⟨q0, q5, q6, q7, q8⟩ := part_cells hpb
  by_cases hhi : p.hi < 0
  · have e1 : decide (p.hi < 0) = true := by simpa using hhi
    by_cases h1 : bs.length = 1
    · have hk0 : 0 < p.kids.length := by omega
      have hp0 := htree 0 hk0 (by omega)
      rw [TreeP_eq] at hp0
      obtain ⟨ks0, kn0, bs0, hpb0, -, -, -, -⟩ := hp0
      obtain ⟨z0, -, -, -, -⟩ := part_cells hpb0
      obtain ⟨kb, ko, cap, e, hx⟩ := hks.at (i := 0) (by omega)
      cases e
      have hhd : (p.kids.map Pat.op).head? = some (p.kids[0].op) := by
        rw [List.head?_eq_getElem?, List.getElem?_map, List.getElem?_eq_getElem hk0]; rfl
      generalize hb0 : bs[0] = b0 at hx z0
      rw [Nat.add_zero] at hx
      have hr : repB p = decide (p.kids[0].op = 0) := by
        unfold repB
        rw [e1, hhd, ← hlen, h1]
        simp only [Bool.true_and, beq_self_eq_true]
        by_cases hop : p.kids[0].op = 0 <;> simp [hop]
      rw [hr]
      generalize p.kids[0].op = o0 at z0 ⊢
      clear hpb hks htl htree hpb0 hhd hr
      rw [h1] at q7
      by_cases ho : o0 = 0
      · subst ho
        go_enter Tryd.func60, Tryd.ntmps60
        go_wp2
        go_ret
        exact ⟨by simp, rfl⟩
      · have e2 : decide (o0 = 0) = false := by simpa using ho
        have e3 : (o0 == 0) = false := by simpa using ho
        go_enter Tryd.func60, Tryd.ntmps60
        go_wp2
        go_ret
        exact ⟨by simp [ho], rfl⟩
    · have hr : repB p = false := by unfold repB; rw [e1, ← hlen]; simp [h1]
      rw [hr]
      have e3 : ((bs.length : Int) == 1) = false := by have : ¬ ((bs.length : Int) = 1) := by omega
                                                       simpa using this
      clear hpb hks htl htree hr hlen hhi h1
      go_enter Tryd.func60, Tryd.ntmps60
      go_wp2
      go_ret
      exact ⟨by simp, rfl⟩
  · have e1 : decide (p.hi < 0) = false := by simpa using hhi
    have hr : repB p = false := by unfold repB; rw [e1]; rfl
    rw [hr]
    clear hpb hks htl htree hr hlen hhi
    go_enter Tryd.func60, Tryd.ntmps60
    go_wp2
    go_ret
    exact ⟨by simp, rfl⟩
end Go.Proofs.YtooaamepflkgnaaDoor
set_option maxRecDepth 100000
namespace Go.Proofs.YtooaamepflkgnaaDoor
open Go.RowKit

/-- How often at least a Rep is gone through makes no difference where it matches the empty text. -/
theorem least_spec (s : ByteArray) (p : Pat) (hop : p.op = 3) (hnum : p.num = true) (i j : Int) (h0 : 0 ≤ i) (h1 : i ≤ s.size) :
    p.M s i j ↔ ∃ k : Nat, leastN p ≤ k ∧ (p.hi < 0 ∨ (k : Int) ≤ p.hi) ∧ Pw (rowM s p.kids) k i j := by
  rw [M_rep hop]
  unfold leastN
  have hn := hnum
  rw [num_eq, Bool.and_eq_true, List.all_eq_true] at hn
  have hb : 0 ≤ p.lo ∧ (0 ≤ p.hi → p.lo ≤ p.hi) := by
    have := hn.1
    simp [numN, hop] at this
    exact ⟨this.1, by omega⟩
  by_cases hnul : p.nul = true
  · rw [if_pos ⟨hop, hnul⟩]
    refine ⟨fun ⟨k, _, h3, h4⟩ => ⟨k, by omega, h3, h4⟩, fun ⟨k, _, h3, h4⟩ => ?_⟩
    by_cases hk : p.lo ≤ k
    · exact ⟨k, hk, h3, h4⟩
    · have hrow := row_stay (s := s) (l := p.kids) (fun q hq => M_empty s q (hn.2 q hq)) i h0 h1
      have hna : nulAll p.kids = true := by
        have e : p.nul = (p.lo == 0 || nulAll p.kids) := by
          cases p with
          | mk op c lo hi kids => simp only [Pat.op] at hop; subst hop; rw [Pat.nul]; rfl
        rw [e] at hnul
        simp at hnul
        rcases hnul with h | h
        · omega
        · exact h
      refine ⟨p.lo.toNat, by omega, by omega, ?_⟩
      have e : p.lo.toNat = (p.lo.toNat - k) + k := by omega
      rw [e, Pw_add]
      exact ⟨i, Pw_same (hrow.2 hna) _, h4⟩
  · rw [if_neg (fun h => hnul h.2)]
theorem least_ge (p : Pat) (hop : p.op = 3) (hnum : p.num = true) : 0 ≤ leastN p ∧ leastN p ≤ 1000 ∧ (0 ≤ p.hi → leastN p ≤ p.hi) ∧ p.hi ≤ 1000 := by
  have hn := hnum
  rw [num_eq, Bool.and_eq_true] at hn
  have := hn.1
  simp [numN, hop] at this
  unfold leastN
  split <;> omega
theorem Pw_empty {R : Int → Int → Prop} {K : List (Int × Int)} {a b : Nat} (hab : a ≤ b) (h : ∀ z, ¬ ∃ i, mem K i ∧ Pw R a i z) (z : Int) : ¬ ∃ i, mem K i ∧ Pw R b i z := by
  rintro ⟨i, h1, h2⟩
  rw [show b = a + (b - a) by omega, Pw_add] at h2
  obtain ⟨m, h3, _⟩ := h2
  exact h m ⟨i, h1, h3⟩
/-- What was come to in so many steps at most, and what is fresh. -/
structure Bfs (R : Int → Int → Prop) (J T F : List (Int × Int)) (e : Nat) : Prop where
  sub : ∀ z, mem F z → mem T z
  all : ∀ z, mem T z ↔ ∃ i, mem J i ∧ ∃ d, d ≤ e ∧ Pw R d i z
  old : ∀ z, mem T z → ¬ mem F z → ∀ y, R z y → mem T y
  far : ∀ z, mem F z → (e : Int) ≤ z
theorem Bfs.start {R : Int → Int → Prop} {J : List (Int × Int)} {n : Int} (hJ : In n J) : Bfs R J (joinR [] J) J 0 := by
  have hm : ∀ z, mem (joinR [] J) z ↔ mem J z := fun z => by rw [mem_join .nil]; simp [mem]
  refine ⟨fun z h => (hm z).2 h, fun z => ?_, fun z h1 h2 => absurd ((hm z).1 h1) h2, fun z h => (hJ z h).1⟩
  rw [hm]
  refine ⟨fun h => ⟨z, h, 0, Nat.le_refl _, rfl⟩, fun ⟨i, h1, d, h2, h3⟩ => ?_⟩
  obtain rfl : d = 0 := by omega
  have h3 : i = z := h3
  exact h3 ▸ h1
theorem Bfs.step {R : Int → Int → Prop} {J T F L : List (Int × Int)} {e : Nat} {n : Int} (h : Bfs R J T F e) (hm : ∀ i j, R i j → 0 ≤ i → i ≤ n → i ≤ j ∧ j ≤ n) (hF : In n F) (hT : Nrm T) (hL : ∀ x, mem L x ↔ ∃ i, mem F i ∧ R i x) :
    Bfs R J (joinR T (minusR L T)) (minusR L T) (e + 1) := by
  have hmT : ∀ z, mem (joinR T (minusR L T)) z ↔ mem T z ∨ ∃ i, mem F i ∧ R i z := fun z => by
    rw [mem_join hT, mem_minus L hT, hL]
    by_cases hz : mem T z <;> simp [hz]
  refine ⟨fun z hz => (mem_join hT _ _).2 (.inr hz), fun z => ?_, fun z h1 h2 y hy => ?_, fun z hz => ?_⟩
  · rw [hmT]
    constructor
    · rintro (h1 | ⟨y, h1, h2⟩)
      · obtain ⟨i, h3, d, h4, h5⟩ := (h.all z).1 h1
        exact ⟨i, h3, d, by omega, h5⟩
      · obtain ⟨i, h3, d, h4, h5⟩ := (h.all y).1 (h.sub y h1)
        exact ⟨i, h3, d + 1, by omega, (Pw_succ R d i z).2 ⟨y, h5, h2⟩⟩
    · rintro ⟨i, h3, d, h4, h5⟩
      by_cases hd : d ≤ e
      · exact .inl ((h.all z).2 ⟨i, h3, d, hd, h5⟩)
      · obtain rfl : d = e + 1 := by omega
        obtain ⟨m, h6, h7⟩ := (Pw_succ R e i z).1 h5
        have hmT : mem T m := (h.all m).2 ⟨i, h3, e, Nat.le_refl _, h6⟩
        by_cases hmF : mem F m
        · exact .inr ⟨m, hmF, h7⟩
        · exact .inl (h.old m hmT hmF z h7)
  · have hzT : mem T z := by
      rcases (mem_join hT _ _).1 h1 with h3 | h3
      · exact h3
      · exact absurd h3 h2
    rw [hmT]
    by_cases hzF : mem F z
    · exact .inr ⟨z, hzF, hy⟩
    · exact .inl (h.old z hzT hzF y hy)
  · obtain ⟨h1, h2⟩ := (mem_minus L hT z).1 hz
    obtain ⟨y, h3, h4⟩ := (hL z).1 h1
    have h5 := hF y h3
    have h6 := hm y z h4 h5.1 h5.2
    have h7 := h.far y h3
    have h8 : y ≠ z := fun e => h2 (e ▸ h.sub y h3)
    omega
theorem Bfs.whole {R : Int → Int → Prop} {J T : List (Int × Int)} {e : Nat} (h : Bfs R J T [] e) (z : Int) : mem T z ↔ ∃ i, mem J i ∧ ∃ d, Pw R d i z := by
  have hc : ∀ d y, mem T y → ∀ z, Pw R d y z → mem T z := by
    intro d
    induction d with
    | zero => intro y hy z hz; have hz : y = z := hz; exact hz ▸ hy
    | succ d ih =>
      intro y hy z ⟨m, h1, h2⟩
      exact ih m (h.old y hy (by simp [mem]) m h1) z h2
  refine ⟨fun h1 => ?_, fun ⟨i, h1, d, h2⟩ => hc d i ((h.all i).2 ⟨i, h1, 0, Nat.zero_le _, rfl⟩) z h2⟩
  obtain ⟨i, h2, d, _, h4⟩ := (h.all z).1 h1
  exact ⟨i, h2, d, h4⟩
/-- What is collected is what the Rep matches. -/
theorem rep_done (s : ByteArray) (p : Pat) (hop : p.op = 3) (hnum : p.num = true) {K J T F : List (Int × Int)} {e : Nat} (hK : In s.size K)
    (hJ : ∀ z, mem J z ↔ ∃ i, mem K i ∧ Pw (rowM s p.kids) (leastN p).toNat i z) (h : Bfs (rowM s p.kids) J T F e)
    (hend : F = [] ∧ (0 ≤ p.hi → leastN p + e ≤ p.hi) ∨ (0 ≤ p.hi ∧ leastN p + e = p.hi)) (z : Int) : mem T z ↔ ∃ i, mem K i ∧ p.M s i z := by
  obtain ⟨l0, _, l2, _⟩ := least_ge p hop hnum
  have key : mem T z ↔ ∃ i, mem J i ∧ ∃ d : Nat, (p.hi < 0 ∨ leastN p + d ≤ p.hi) ∧ Pw (rowM s p.kids) d i z := by
    rcases hend with ⟨rfl, h3⟩ | ⟨h2, h3⟩
    · constructor
      · intro h1
        obtain ⟨i, h4, d, h5, h6⟩ := (h.all z).1 h1
        exact ⟨i, h4, d, by omega, h6⟩
      · rintro ⟨i, h4, d, _, h6⟩
        exact (h.whole z).2 ⟨i, h4, d, h6⟩
    · rw [h.all]
      constructor
      · rintro ⟨i, h4, d, h5, h6⟩; exact ⟨i, h4, d, by omega, h6⟩
      · rintro ⟨i, h4, d, h5, h6⟩; exact ⟨i, h4, d, by omega, h6⟩
  rw [key]
  constructor
  · rintro ⟨m, h1, d, h2, h3⟩
    obtain ⟨i, h4, h5⟩ := (hJ m).1 h1
    have hi := hK i h4
    refine ⟨i, h4, (least_spec s p hop hnum i z hi.1 hi.2).2 ⟨(leastN p).toNat + d, by omega, by omega, (Pw_add _ _ _ _ _).2 ⟨m, h5, h3⟩⟩⟩
  · rintro ⟨i, h4, h5⟩
    have hi := hK i h4
    obtain ⟨k, h6, h7, h8⟩ := (least_spec s p hop hnum i z hi.1 hi.2).1 h5
    rw [show k = (leastN p).toNat + (k - (leastN p).toNat) by omega, Pw_add] at h8
    obtain ⟨m, h9, h10⟩ := h8
    exact ⟨m, (hJ m).2 ⟨i, h4, h9⟩, k - (leastN p).toNat, by omega, h10⟩
end Go.Proofs.YtooaamepflkgnaaDoor
set_option maxRecDepth 100000
namespace Go.Proofs.YtooaamepflkgnaaDoor
open Go.RowKit

def Yn (X : Nat → Prop) (nf : Nat) : Nat → Prop := fun k => X k ∨ k = nf
structure Var2 (s : ByteArray) (mb : Nat → Option Pat) (X : Nat → Prop) (bp nf : Nat) (T : List (Int × Int)) (w : World) : Prop where
  var : Var s mb X bp T w
  box : ∃ u, w.heap[nf]? = some (.cells #[u] 61 (0, 0))
  far : bp < nf
  own : ownAt w bp ≠ some nf
  memo : Memos s mb (Bad bp (Yn X nf) w) w
theorem Bad.own {bp : Nat} {Y : Nat → Prop} {w w' : World} (e : ownAt w' bp = ownAt w bp) (k : Nat) : Bad bp Y w' k ↔ Bad bp Y w k := by unfold Bad; rw [e]
theorem Var.own_call {s : ByteArray} {mb : Nat → Option Pat} {X : Nat → Prop} {bp : Nat} {J : List (Int × Int)} {w w' : World} (h : Var s mb X bp J w) (ho : Out (Xm mb) w w') : ownAt w' bp = ownAt w bp := by
  obtain ⟨v, hs⟩ := h.set
  have hs' : SetB w' bp (bp + 1) v J := hs.out ho fun k hk hx => hx (hs.not_map h.memo hk)
  rw [hs.ownAt, hs'.ownAt]
theorem Var2.mbn {s : ByteArray} {mb : Nat → Option Pat} {X : Nat → Prop} {bp nf : Nat} {T : List (Int × Int)} {w : World} (h : Var2 s mb X bp nf T w) : mb nf = none := by
  obtain ⟨u, hu⟩ := h.box
  have := h.memo.not_cells hu rfl
  unfold Xm at this
  simpa using this
theorem Var2.call {s : ByteArray} {mb : Nat → Option Pat} {X : Nat → Prop} {bp nf : Nat} {T : List (Int × Int)} {w w' : World} (h : Var2 s mb X bp nf T w) (ho : Out (Xm mb) w w') (hm : Memos s mb (Bad bp (Yn X nf) w) w') : Var2 s mb X bp nf T w' := by
  obtain ⟨u, hu⟩ := h.box
  have e := h.var.own_call ho
  refine ⟨(h.var.call ho (hm.weak fun k _ hk => ?_)).1, ⟨u, (ho.block nf (lt_of_block hu) (h.memo.not_cells hu rfl)).trans hu⟩, h.far, by rw [e]; exact h.own, hm.weak fun k _ hk => (Bad.own e k).1 hk⟩
  rcases hk with h1 | h1 | h1
  · exact .inl h1
  · exact .inr (.inl h1)
  · exact .inr (.inr (.inl h1))
theorem Var2.lt {s : ByteArray} {mb : Nat → Option Pat} {X : Nat → Prop} {bp nf : Nat} {T : List (Int × Int)} {w : World} (h : Var2 s mb X bp nf T w) : nf < w.heap.size := by
  obtain ⟨u, hu⟩ := h.box; exact lt_of_block hu
theorem Var2.fit {s : ByteArray} {mb : Nat → Option Pat} {X : Nat → Prop} {bp nf : Nat} {T : List (Int × Int)} {w : World} (h : Var2 s mb X bp nf T w) (k : Nat) (hk : Bad bp (Yn X nf) w k) : k < w.heap.size := by
  rcases hk with h1 | h1 | h1 | h1
  · exact h.var.fit.2 k (.inl h1)
  · exact h.var.fit.2 k (.inr (.inl h1))
  · exact h.var.fit.2 k (.inr (.inr h1))
  · rw [h1]; exact h.lt
theorem Var2.below {s : ByteArray} {mb : Nat → Option Pat} {X : Nat → Prop} {bp nf : Nat} {T : List (Int × Int)} {w w' : World} (h : Var2 s mb X bp nf T w) (hb : Below w.heap.size w w') : Var2 s mb X bp nf T w' := by
  obtain ⟨u, hu⟩ := h.box
  have e : ownAt w' bp = ownAt w bp := ownAt_below hb h.var.size
  exact ⟨h.var.below hb, ⟨u, (hb.block nf (lt_of_block hu)).trans hu⟩, h.far, by rw [e]; exact h.own, (h.memo.below hb).weak fun k _ hk => (Bad.own e k).1 hk⟩
theorem Var2.set {s : ByteArray} {mb : Nat → Option Pat} {X : Nat → Prop} {bp nf : Nat} {T : List (Int × Int)} {w : World} (h : Var2 s mb X bp nf T w) (u : Value) : Var2 s mb X bp nf T (w.setCell ⟨nf, 0, none⟩ u) ∧ ownAt (w.setCell ⟨nf, 0, none⟩ u) bp = ownAt w bp := by
  obtain ⟨u0, hu⟩ := h.box
  have ho : Out (fun k => k = nf) w (w.setCell ⟨nf, 0, none⟩ u) := Out.set (X := fun k => k = nf) w 0 u rfl
  have hfar := h.far
  have e : ownAt (w.setCell ⟨nf, 0, none⟩ u) bp = ownAt w bp := ownAt_block (ho.block bp h.var.size (by show bp ≠ nf; omega))
  have hm : Memos s mb (Bad bp (Yn X nf) w) (w.setCell ⟨nf, 0, none⟩ u) := h.memo.out ho fun k _ e => by have e : k = nf := e; rw [e]; exact ⟨.inr (.inr (.inr rfl)), h.mbn⟩
  obtain ⟨v, hs⟩ := h.var.set
  refine ⟨⟨⟨⟨v, hs.out ho fun k hk e => ?_⟩, h.var.nrm, h.var.inn, h.var.xm, h.var.lt, hm.weak fun k _ hk => ?_⟩, ⟨u, box_set hu u⟩, h.far, by rw [e]; exact h.own, hm.weak fun k _ hk => (Bad.own e k).1 hk⟩, e⟩
  · have e : k = nf := e
    subst e
    rcases hk with h1 | h1
    · omega
    · exact h.own (by rw [hs.ownAt]; exact h1)
  · rcases (Bad.own e k).1 hk with h1 | h1 | h1
    · exact .inl h1
    · exact .inr (.inl h1)
    · exact .inr (.inr (.inl h1))
theorem Var2.new {s : ByteArray} {mb : Nat → Option Pat} {X : Nat → Prop} {bp nf : Nat} {T : List (Int × Int)} {w : World} (h : Var s mb X bp T w) (hn : w.heap.size = nf) (u : Value) : Var2 s mb X bp nf T (w.alloc (.cells #[u] 61)) := by
  have hb := below_one w (.cells #[u] 61)
  have e : ownAt (w.alloc (.cells #[u] 61)) bp = ownAt w bp := ownAt_below hb h.size
  refine ⟨h.below hb, ⟨u, by rw [← hn]; exact heap_alloc_new w _⟩, by rw [← hn]; exact h.size, fun h1 => ?_, (h.memo.weak fun k hk h1 => ?_).below hb⟩
  · rw [e] at h1; have := h.fit.2 nf (.inr (.inl h1)); omega
  · rcases (Bad.own e k).1 h1 with h2 | h2 | h2 | h2
    · exact .inl h2
    · exact .inr (.inl h2)
    · exact .inr (.inr h2)
    · omega
theorem Var2.join {s : ByteArray} {mb : Nat → Option Pat} {X : Nat → Prop} {bp nf : Nat} {T L : List (Int × Int)} {u : Value} {w : World} (h : Var2 s mb X bp nf T w) (hr : Rn w (Bad bp (Yn X nf) w) u L) (hN : Nrm L) (hI : In s.size L) (hsz : s.size ≤ 90) :
    Calls Tryd.prog 58 #[.pointer (some ⟨bp, 0, none⟩), .agg #[u]] w fun e w' => e = .returned (.tuple #[]) ∧ Var2 s mb X bp nf (joinR T L) w' ∧ Out (fun k => k = bp ∨ ownAt w bp = some k) w w' ∧ Rn w' (Bad bp (Yn X nf) w') u L := by
  obtain ⟨v, hs⟩ := h.var.set
  obtain ⟨u0, hu0⟩ := h.box
  have hfar := h.far
  have hown := h.own
  refine (join_any bp (bp + 1) v u T L s.size w hs h.var.nrm h.var.inn hN hI (by omega) (by omega) (hr.weak fun k _ hk => ?_)).mono ?_
  · rcases hk with e | e
    · exact .inl e
    · exact .inr (.inl (by rw [hs.ownAt]; exact e))
  · rintro e w' ⟨rfl, ha⟩
    have hk := ha.keepV hs (Yn X nf)
    obtain ⟨h1, _⟩ := h.var.added hs ha (h.var.nrm.join L) (h.var.inn.join h.var.nrm hI)
    obtain ⟨v', hs', ho, hown'⟩ := ha
    rw [hs.ownAt] at hown
    have hnp : ¬ Priv bp v nf := by
      rintro (e | e)
      · omega
      · exact hown e
    refine ⟨rfl, ⟨h1, ⟨u0, (ho.block nf (lt_of_block hu0) hnp).trans hu0⟩, h.far, fun e => ?_, h.memo.map (fun k hx => ho.block k (h.memo.lt hx) fun hp => hx (hs.not_map h.memo hp)) fun v L hr => hk.rn hr⟩, ho.mono fun k _ e => ?_, hk.rn hr⟩
    · rw [hs'.ownAt] at e
      rcases hown' nf e with h2 | h2
      · exact hown h2
      · have := h.lt; omega
    · rw [hs.ownAt]; exact e
end Go.Proofs.YtooaamepflkgnaaDoor
