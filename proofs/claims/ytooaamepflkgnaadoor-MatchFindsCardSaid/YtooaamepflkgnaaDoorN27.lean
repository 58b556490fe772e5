/- Texts that a proof rests on: The contract of other. -/
import Derived.Test.YtooaamepflkgnaaDoorN26
set_option maxRecDepth 100000
namespace Go.Proofs.YtooaamepflkgnaaDoor
open Go.RowKit

theorem one_run (a b x : Int) : mem [(a, b)] x ↔ a ≤ x ∧ x ≤ b := by simp [mem]
set_option maxHeartbeats 4000000 in
theorem other_any (s : ByteArray) (mb : Nat → Option Pat) (p : Pat) (rep : Bool) (b : Nat) (rv : Value) (i : Int) (hop : p.op = 5) (hE : ∀ q ∈ p.kids, ∀ rep b, EndsC s mb q rep b) (hl5 : p.kids.length < 10000)
    (X : Nat → Prop) (w : World) (v : Value) (hp : Pre s mb X v [(i, i)] w) (ht : TreeP w mb p rep b) :
    Calls Tryd.prog 49 #[mV rv s, pV b, .agg #[v]] w (Post s mb X (p.M s) [(i, i)] w) := by
  obtain ⟨a, c, rfl⟩ := hp.rn.len
  have hsz := hp.sz
  have hi : 0 ≤ i ∧ i ≤ s.size := hp.inn i ⟨(i, i), by simp, by simp, by simp⟩
  rw [TreeP_eq] at ht
  obtain ⟨ks, kn, bs, hpb, hmb, _, hks, htl⟩ := ht
  obtain ⟨ka, kc, rfl⟩ := hks.form
  obtain ⟨N, hN⟩ : ∃ N, w.heap.size = N := ⟨_, rfl⟩
  obtain ⟨hb1, hsz1, h0, h1, h2⟩ := three_boxes w #[rv, .string s] #[.slice a [(i, i)].length c] #[.slice none 0 0] 53 61 61 N hN
  obtain ⟨w1, hw1⟩ : ∃ w1, w1 = ((w.alloc (.cells #[rv, .string s] 53)).alloc (.cells #[.slice a [(i, i)].length c] 61)).alloc (.cells #[.slice none 0 0] 61) := ⟨_, rfl⟩
  rw [← hw1] at hb1 hsz1 h0 h1 h2
  have hb1' : Below w.heap.size w w1 := by rw [hN]; exact hb1
  have hp1 := hp.loc hb1' (N := N) (B := N + 1 + 1 + 1) hN (by omega)
  obtain ⟨q0, q5, q6, q7, q8⟩ := part_cells ((hb1'.block b (lt_of_block hpb)).trans hpb)
  have hm0 : mb N = none := hp.new_none (by omega)
  have hm1 : mb (N + 1) = none := hp.new_none (by omega)
  have hm2 : mb (N + 1 + 1) = none := hp.new_none (by omega)
  obtain ⟨c0, c1⟩ := pair_cells h0
  have c2 := box_cell h1
  have HP := Lib.hid hp
  have HP1 := Lib.hid hp1
  have HB1 := Lib.hid hb1'
  have HKS := Lib.hid hks
  have HTL := Lib.hid htl
  have hX2 : Loc X N (N + 1 + 1 + 1) (N + 1 + 1) := .inr ⟨by omega, by omega⟩
  have hNr : w.heap.size ≤ N + 1 + 1 := by omega
  have hbr : b ≠ N + 1 + 1 := by have := lt_of_block hpb; omega
  have hn0 : N ≠ N + 1 + 1 := by omega
  have hn1 : N + 1 ≠ N + 1 + 1 := by omega
  have hin : In (s.size : Int) [(i, (s.size : Int))] := fun x hx => by
    obtain ⟨r, hr, h1, h2⟩ := hx
    simp at hr
    subst hr
    simp at h1 h2
    omega
  have hss : (0 : Int) ≤ s.size := by omega
  have hss5 : (s.size : Int) ≤ 5000 := by omega
  have HE := Lib.hid (fun i (h : i < p.kids.length) (_ : i < bs.length) => hE p.kids[i] (List.getElem_mem h) (rep || p.op == 3) bs[i])
  have H2 := Lib.hid h2
  have HLT := Lib.hid hp1.lt
  have HXM := Lib.hid hp1.xm
  have hS0 : w1.drew.cell? ⟨N, 0, none⟩ = some rv ∧ w1.drew.cell? ⟨N, 1, none⟩ = some (.string s) ∧ w1.drew.cell? ⟨N + 1, 0, none⟩ = some (.slice a 1 c) ∧ w1.drew.cell? ⟨b, 7, none⟩ = some (.slice ka bs.length kc) ∧ FrameM s mb (Loc X N (N + 1 + 1 + 1)) (N + 1 + 1) w1 w1.drew := ⟨c0, c1, c2, q7, FrameM.start hp1.memo⟩
  have HS0 := Lib.hid hS0
  clear hp hp1 hb1' hb1 hks htl hE h0 h1 h2 hpb q0 q5 q6 q8 hS0 q7 c0 c1 c2
  have mixed : Tryd.prog.follows .mixedOrders = true := by kernel_rfl
  simp only [List.length_cons, List.length_nil, Nat.zero_add] at hw1 ⊢
  go_enter Tryd.func49, Tryd.ntmps49
  go_wp2
  rw [← hw1]
  clear hw1
  go_region_held3 (fun W => W.cell? ⟨N, 0, none⟩ = some rv ∧ W.cell? ⟨N, 1, none⟩ = some (.string s) ∧ W.cell? ⟨N + 1, 0, none⟩ = some (.slice a 1 c) ∧ W.cell? ⟨b, 7, none⟩ = some (.slice ka bs.length kc) ∧ FrameM s mb (Loc X N (N + 1 + 1 + 1)) (N + 1 + 1) w1 W)
    (first | (with_reducible exact HS0.out) | (with_reducible exact s4_below (by assumption) (by assumption)) | (with_reducible exact s4_out (by assumption) (by assumption) (by assumption) hm0 hm1 hmb) | (with_reducible exact s4_set (by assumption) hX2 hm2 hn0 hn1 hbr rfl))
    (first
      | (go_at_call 63; (with_reducible refine (upToEnd_any s i (.slice a 1 c) rv _ _ hsz hi ((s4_frame (by assumption)).pre HP1.out hX2).rn).mono ?_); rintro e w3 ⟨a3, n3, c3, rfl, hr3, hb3⟩; have hr3' := hr3.weak (fun k _ hk => HLT.out k hk); have hbr3 := (hb3.block (N + 1 + 1) (lt_of_block H2.out)).trans H2.out)
      | (go_at_call 43; (with_reducible refine (row_any s mb p.kids (rep || p.op == 3) bs (.slice ka bs.length kc) HE.out _ _ (.slice a 1 c) rv [(i, i)] ((s4_frame (by assumption)).pre HP1.out hX2) (HKS.out.out ((s4_frame (by assumption)).from HB1.out hNr)) (TreeL.out ((s4_frame (by assumption)).from HB1.out hNr) HTL.out) hl5).mono ?_); rintro e w4 ⟨a4, n4, c4, L4, rfl, hr4, he4, ho4, hm4⟩; have hr4' := hr3'.out ho4 (fun k _ h => HXM.out k h); obtain ⟨hn4, hi4, hx4⟩ := he4; have hbr4 := (ho4.block (N + 1 + 1) (lt_of_block hbr3) (fun h => h hm2)).trans hbr3)
      | (go_at_call 62; (with_reducible refine (minus_any (.slice a3 n3 c3) (.slice a4 n4 c4) [(i, (s.size : Int))] L4 _ (s.size : Int) _ (Nrm.one hi.2) hin hn4 hi4 hss hss5 hr4' hr4).mono ?_); rintro e w5 ⟨a5, n5, c5, rfl, hr5, hb5⟩; have hbr5 := (hb5.block (N + 1 + 1) (lt_of_block hbr4)).trans hbr4; have hcr5 := box_cell hbr5; have hfr5 := frozen_row (j := 0) hbr5))
  have hw3 := hb3.size
  have hw4 := ho4.size
  have hoo : Out (Xm mb) w w5 := ((((Out.below (X := Xm mb) HB1.out).drew).trans (Out.below hb3)).trans ho4).trans (Out.below hb5)
  have hone : ∀ y, mem [(i, i)] y ↔ y = i := (one_place rfl).2.2.1
  have hEE : EndsOf s (p.M s) [(i, i)] (minusR [(i, (s.size : Int))] L4) := by
    refine ⟨Nrm.minus _ hn4, hin.minus hn4, fun x => ?_⟩
    rw [mem_minus _ hn4, hx4]
    simp only [hone, M_not hop, exists_eq_left]
    rw [one_run, and_assoc]
  have hF := fin_post (R := p.M s) (r0 := N + 1 + 1) (B := N + 1 + 1 + 1) HP.out hoo hN rfl (hr5.weak fun k _ hk => Nat.lt_of_lt_of_le (HLT.out k hk) (Nat.le_trans hw3 hw4)) hEE (hm4.below hb5) (by omega) (by omega) hm2
  have HF := Lib.hid hF
  clear hF hoo hEE
  go_wp2
  exact bodyPost_ret (v := .agg #[.slice a5 n5 c5]) (by simp [results, Tryd.results49, go_sem, *]) rfl HF.out
end Go.Proofs.YtooaamepflkgnaaDoor
