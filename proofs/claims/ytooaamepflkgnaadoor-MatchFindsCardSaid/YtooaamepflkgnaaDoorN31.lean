/- Texts that a proof rests on: The contract of ends. -/
import Derived.Test.YtooaamepflkgnaaDoorN30
set_option maxRecDepth 100000
namespace Go.Proofs.YtooaamepflkgnaaDoor
open Go.RowKit

/-- What the result is where a function of matching has met the wanted ends. -/
theorem Post.fin {s : ByteArray} {mb : Nat → Option Pat} {X : Nat → Prop} {R R' : Int → Int → Prop} {v : Value} {K : List (Int × Int)} {N : Nat} {w w1 w4 : World} {a6 : Option Addr} {n6 c6 : Nat} {L6 : List (Int × Int)} (hp : Pre s mb X v K w) (hb1 : Below w.heap.size w w1) (hN : w.heap.size = N)
    (hr : Rn w4 (Loc X N (N + 1 + 1 + 1)) (.slice a6 n6 c6) L6) (he : EndsOf s R K L6) (ho : Out (Xm mb) w1 w4) (hm : Memos s mb (Loc X N (N + 1 + 1 + 1)) w4) (hR : ∀ i x, mem K i → (R i x ↔ R' i x)) :
    Post s mb X R' K w (.returned (.agg #[.slice a6 n6 c6])) (w4.setCell ⟨N + 1 + 1, 0, none⟩ (.slice a6 n6 c6)) :=
  fin_post (R := R') (r0 := N + 1 + 1) (B := N + 1 + 1 + 1) hp ((Out.below hb1).trans ho) hN rfl hr ⟨he.1, he.2.1, fun x => by
    rw [he.2.2]
    exact ⟨fun ⟨i, h1, h2⟩ => ⟨i, h1, (hR i x h1).1 h2⟩, fun ⟨i, h1, h2⟩ => ⟨i, h1, (hR i x h1).2 h2⟩⟩⟩ hm (by omega) (by omega) (hp.new_none (by omega))
set_option linter.unusedSimpArgs false in
set_option maxHeartbeats 4000000 in
theorem ends_step (s : ByteArray) (mb : Nat → Option Pat) (p : Pat) (rep : Bool) (b : Nat) (hnum : p.num = true) (hE : ∀ q ∈ p.kids, ∀ rep b, EndsC s mb q rep b) (hl5 : p.kids.length < 10000) : EndsC s mb p rep b := by
  intro X w v rv K hp ht
  obtain ⟨a, c, rfl⟩ := hp.rn.len
  have hsz := hp.sz
  have ht0 := ht
  rw [TreeP_eq] at ht
  obtain ⟨ks, kn, bs, hpb, hmb, -, hks, htl⟩ := ht
  obtain ⟨ka, kc, rfl⟩ := hks.form
  obtain ⟨N, hN⟩ : ∃ N, w.heap.size = N := ⟨_, rfl⟩
  obtain ⟨hb1, hsz1, h0, h1, h2⟩ := three_boxes w #[rv, .string s] #[.slice a K.length c] #[.slice none 0 0] 53 61 61 N hN
  obtain ⟨w1, hw1⟩ : ∃ w1, w1 = ((w.alloc (.cells #[rv, .string s] 53)).alloc (.cells #[.slice a K.length c] 61)).alloc (.cells #[.slice none 0 0] 61) := ⟨_, rfl⟩
  rw [← hw1] at hb1 hsz1 h0 h1 h2
  have hb1' : Below w.heap.size w w1 := by rw [hN]; exact hb1
  have HP1 := Lib.hid (hp.loc hb1' (N := N) (B := N + 1 + 1 + 1) hN (by omega))
  have HW1 := Lib.hid hw1
  have HP := Lib.hid hp
  have HT := Lib.hid ht0
  have HTL := Lib.hid htl
  have HKS := Lib.hid hks
  have HB1 := Lib.hid hb1'
  have HPB := Lib.hid hpb
  have HMB := Lib.hid hmb
  have H0 := Lib.hid h0
  have H1 := Lib.hid h1
  have H2 := Lib.hid h2
  have HE := Lib.hid hE
  have HNUM := Lib.hid hnum
  clear hp ht0 hpb hmb hks htl hb1 hb1' h0 h1 h2 hE hnum hw1
  have mixed : Tryd.prog.follows .mixedOrders = true := by kernel_rfl
  by_cases hK0 : K = []
  · have hL0 : (K.length == 0) = true := by simp [hK0]
    have HK0 := Lib.hid hK0
    have HL0 := Lib.hid hL0
    clear hK0 hL0
    go_enter Tryd.func36, Tryd.ntmps36
    go_wp2_with (go_at_call 40; rw [← HW1.out]; refine (empty_any K (.slice a K.length c) _ w1 HP1.out.rn).mono ?_; rw [HL0.out]; rintro e w3 ⟨rfl, hb3⟩; have hr9 := (hb3.block (N + 1 + 1) (by omega)).trans H2.out; have hc9 := box_cell hr9; have hf9 := frozen_row (j := 0) hr9)
    have hF := Post.fin (R' := p.M s) (R := p.M s) HP.out HB1.out hN (w4 := w3) (Rn.nil w3 _) ⟨.nil, In.nil _, fun x => by rw [HK0.out]; simp [mem]⟩ (Out.below hb3) (HP1.out.below hb3).memo (fun _ _ _ => Iff.rfl)
    have HF := Lib.hid hF
    clear hF
    exact bodyPost_ret (v := .agg #[.slice none 0 0]) (by simp [results, Tryd.results36, go_sem, *]) rfl HF.out
  have hL0 : (K.length == 0) = false := by simp [hK0]
  have HL0 := Lib.hid hL0
  clear hK0 hL0
  have ARM : Hid (∀ w3, Below w1.heap.size w1 w3 → w3.cell? ⟨N, 0, none⟩ = some rv ∧ w3.cell? ⟨N, 1, none⟩ = some (.string s) ∧ w3.cell? ⟨N + 1, 0, none⟩ = some (.slice a K.length c) ∧ w3.cell? ⟨b, 0, none⟩ = some (.int .i64 p.op) ∧ w3.cell? ⟨b, 7, none⟩ = some (.slice ka bs.length kc) ∧ Hid (Pre s mb (Loc X N (N + 1 + 1 + 1)) (.slice a K.length c) K w3) ∧ Hid (TreeP w3 mb p rep b) ∧ Hid (w3.heap[N + 1 + 1]? = some (.cells #[.slice none 0 0] 61 (0, 0)))) := Lib.hid fun w3 hb3 => by
    have hlt := lt_of_block HPB.out
    have hpb3 := (hb3.block b (by omega)).trans ((HB1.out.block b hlt).trans HPB.out)
    obtain ⟨q0, _, _, q7, _⟩ := part_cells hpb3
    obtain ⟨c0, c1⟩ := pair_cells ((hb3.block N (by omega)).trans H0.out)
    exact ⟨c0, c1, box_cell ((hb3.block (N + 1) (by omega)).trans H1.out), q0, q7, Lib.hid (HP1.out.below hb3), Lib.hid (TreeP.out ((Out.below HB1.out).trans (Out.below hb3)) p HT.out), Lib.hid ((hb3.block (N + 1 + 1) (by omega)).trans H2.out)⟩
  by_cases h0 : p.op = 0
  · have HOP := Lib.hid h0
    go_enter Tryd.func36, Tryd.ntmps36
    go_wp2_with (first
      | (go_at_call 40; rw [← HW1.out]; refine (empty_any K (.slice a K.length c) _ w1 HP1.out.rn).mono ?_; rw [HL0.out]; rintro e w3 ⟨rfl, hb3⟩; obtain ⟨c0, c1, c2, q0, q7, HPX, HTX, H2X⟩ := ARM.out w3 hb3)
      | (go_at_call 42; refine (oneByte_any s mb p rep b rv K _ w3 (.slice a K.length c) HPX.out HTX.out).mono ?_; rintro e w4 ⟨a6, n6, c6, L6, rfl, hr6, he6, ho6, hm6⟩; have hr9 := (ho6.block (N + 1 + 1) (lt_of_block H2X.out) (fun h => h (HP.out.new_none (by omega)))).trans H2X.out; have hc9 := box_cell hr9; have hf9 := frozen_row (j := 0) hr9))
    have hF := Post.fin (R' := p.M s) HP.out HB1.out hN hr6 he6 ((Out.below hb3).trans ho6) hm6 (fun i x _ => (M_set HOP.out i x).symm)
    have HF := Lib.hid hF
    clear hF
    exact bodyPost_ret (v := .agg #[.slice a6 n6 c6]) (by simp [results, Tryd.results36, go_sem, *]) rfl HF.out
  by_cases h1 : p.op = 1
  · have HOP := Lib.hid h1
    go_enter Tryd.func36, Tryd.ntmps36
    go_wp2_with (go_at_call 40; rw [← HW1.out]; refine (empty_any K (.slice a K.length c) _ w1 HP1.out.rn).mono ?_; rw [HL0.out]; rintro e w3 ⟨rfl, hb3⟩; obtain ⟨c0, c1, c2, q0, q7, HPX, HTX, H2X⟩ := ARM.out w3 hb3)
    have e0 : w3.drew.cell? ⟨N, 0, none⟩ = some rv := c0
    have e1 : w3.drew.cell? ⟨N, 1, none⟩ = some (.string s) := c1
    have e2 : w3.drew.cell? ⟨N + 1, 0, none⟩ = some (.slice a K.length c) := c2
    have e3 : w3.drew.cell? ⟨b, 7, none⟩ = some (.slice ka bs.length kc) := q7
    have how3 : Out (Xm mb) w w3.drew := ((Out.below HB1.out).trans (Out.below hb3)).drew
    have hpd := HPX.out.below ((Below.refl _ w3).drew)
    have HC := Lib.hid (row_any s mb p.kids (rep || p.op == 3) bs (.slice ka bs.length kc) (fun i h _ => HE.out p.kids[i] (List.getElem_mem h) _ _) _ _ (.slice a K.length c) rv K hpd (HKS.out.out how3) (TreeL.out how3 HTL.out) hl5)
    have hmd := hpd.memo
    clear c0 c1 c2 q7 q0 hpd
    refine region_goes 7 8 rfl (fun W => W.cell? ⟨N, 0, none⟩ = some rv ∧ W.cell? ⟨N, 1, none⟩ = some (.string s) ∧ W.cell? ⟨N + 1, 0, none⟩ = some (.slice a K.length c) ∧ W.cell? ⟨b, 7, none⟩ = some (.slice ka bs.length kc)) mixed ⟨e0, e1, e2, e3⟩ (fun hHeld => ?_)
    refine goes_take (i := 0) (v := ?gv501) rfl (by kernel_rfl) (by kernel_rfl) (by kernel_rfl) (by kernel_rfl) (fun _ _ _ h => h) (Or.inl ⟨by rfl, ?gy501⟩) (by assumption) ?gr501
    case gy501 => (intro W9 hW9; obtain ⟨k0, k1, k2, k3⟩ := hW9; first | (go_simp; done) | (go_simp; with_reducible rfl))
    simp only [Act.put, List.getElem_toArray, List.getElem_cons_succ, List.getElem_cons_zero, List.setIfInBounds_toArray, List.set_cons_zero, List.set_cons_succ]
    refine goes_take (i := 1) (v := ?gv502) rfl (by kernel_rfl) (by kernel_rfl) (by kernel_rfl) (by kernel_rfl) (fun _ _ _ h => h) (Or.inl ⟨by rfl, ?gy502⟩) (by assumption) ?gr502
    case gy502 => (intro W9 hW9; obtain ⟨k0, k1, k2, k3⟩ := hW9; first | (go_simp; done) | (go_simp; with_reducible rfl))
    simp only [Act.put, List.getElem_toArray, List.getElem_cons_succ, List.getElem_cons_zero, List.setIfInBounds_toArray, List.set_cons_zero, List.set_cons_succ]
    refine goes_take (i := 2) (v := ?gv503) rfl (by kernel_rfl) (by kernel_rfl) (by kernel_rfl) (by kernel_rfl) (fun _ _ _ h => h) (Or.inl ⟨by rfl, ?gy503⟩) (by assumption) ?gr503
    case gy503 => (intro W9 hW9; obtain ⟨k0, k1, k2, k3⟩ := hW9; first | (go_simp; done) | (go_simp; with_reducible rfl))
    simp only [Act.put, List.getElem_toArray, List.getElem_cons_succ, List.getElem_cons_zero, List.setIfInBounds_toArray, List.set_cons_zero, List.set_cons_succ]
    refine goes_take (i := 3) (v := ?gv504) rfl (by kernel_rfl) (by kernel_rfl) (by kernel_rfl) (by kernel_rfl) (fun _ _ _ h => h) (Or.inl ⟨by rfl, ?gy504⟩) (by assumption) ?gr504
    case gy504 => (intro W9 hW9; obtain ⟨k0, k1, k2, k3⟩ := hW9; first | (go_simp; done) | (go_simp; with_reducible rfl))
    simp only [Act.put, List.getElem_toArray, List.getElem_cons_succ, List.getElem_cons_zero, List.setIfInBounds_toArray, List.set_cons_zero, List.set_cons_succ]
    refine goes_take (i := 4) (v := ?gv505) rfl (by kernel_rfl) (by kernel_rfl) (by kernel_rfl) (by kernel_rfl) (fun _ _ _ h => h) (Or.inl ⟨by rfl, ?gy505⟩) (by assumption) ?gr505
    case gy505 => (intro W9 hW9; obtain ⟨k0, k1, k2, k3⟩ := hW9; first | (go_simp; done) | (go_simp; with_reducible rfl))
    simp only [Act.put, List.getElem_toArray, List.getElem_cons_succ, List.getElem_cons_zero, List.setIfInBounds_toArray, List.set_cons_zero, List.set_cons_succ]
    refine goes_take (i := 5) (v := ?gv506) rfl (by kernel_rfl) (by kernel_rfl) (by kernel_rfl) (by kernel_rfl) (fun _ _ _ h => h) (Or.inl ⟨by rfl, ?gy506⟩) (by assumption) ?gr506
    case gy506 => (intro W9 hW9; obtain ⟨k0, k1, k2, k3⟩ := hW9; first | (go_simp; done) | (go_simp; with_reducible rfl))
    simp only [Act.put, List.getElem_toArray, List.getElem_cons_succ, List.getElem_cons_zero, List.setIfInBounds_toArray, List.set_cons_zero, List.set_cons_succ]
    refine goes_one (i := 6) (by kernel_rfl) rfl (fun K9 hK9 => ?_)
    go_simp
    refine HC.out.mono ?_
    rintro e w4 ⟨a6, n6, c6, L6, rfl, hr6, he6, ho6, hm6⟩
    obtain ⟨k0, k1, k2, k3⟩ := hHeld
    refine hK9.out _ _ (fun _ => ⟨cell_outM hmd ho6 k0, cell_outM hmd ho6 k1, cell_outM hmd ho6 k2, cell_outM hmd ho6 k3⟩) (fun hHeld => ?_)
    clear hK9 K9 k0 k1 k2 k3 hHeld
    have hr9 := (ho6.block (N + 1 + 1) (lt_of_block H2X.out) (fun h => h (HP.out.new_none (by omega)))).trans H2X.out
    have hc9 := box_cell hr9
    have hf9 := frozen_row (j := 0) hr9
    refine goes_one (i := 7) (by kernel_rfl) rfl (fun K9 hK9 => ?_)
    go_simp
    refine hK9.out _ _ (fun h => absurd rfl h) (fun _ => ?_)
    clear hK9 K9
    refine goes_done (by kernel_rfl) ?_ _
    have hF := Post.fin (R' := p.M s) HP.out HB1.out hN hr6 he6 (((Out.below hb3).drew).trans ho6) hm6 (fun i x _ => (M_cat HOP.out i x).symm)
    have HF := Lib.hid hF
    clear hF hr6 he6 ho6 hm6 hmd how3 e0 e1 e2 e3
    go_wp2
    exact bodyPost_ret (v := .agg #[.slice a6 n6 c6]) (by simp [results, Tryd.results36, go_sem, *]) rfl HF.out
  by_cases h2 : p.op = 2
  · have HOP := Lib.hid h2
    go_enter Tryd.func36, Tryd.ntmps36
    go_wp2_with (first
      | (go_at_call 40; rw [← HW1.out]; refine (empty_any K (.slice a K.length c) _ w1 HP1.out.rn).mono ?_; rw [HL0.out]; rintro e w3 ⟨rfl, hb3⟩; obtain ⟨c0, c1, c2, q0, q7, HPX, HTX, H2X⟩ := ARM.out w3 hb3)
      | (go_at_call 44; refine (either_any s mb p rep b HE.out _ w3 (.slice a K.length c) rv K HPX.out HTX.out hl5).mono ?_; rintro e w4 ⟨a6, n6, c6, L6, rfl, hr6, he6, ho6, hm6⟩; have hr9 := (ho6.block (N + 1 + 1) (lt_of_block H2X.out) (fun h => h (HP.out.new_none (by omega)))).trans H2X.out; have hc9 := box_cell hr9; have hf9 := frozen_row (j := 0) hr9))
    have hF := Post.fin (R' := p.M s) HP.out HB1.out hN hr6 he6 ((Out.below hb3).trans ho6) hm6 (fun i x _ => (M_alt HOP.out i x).symm)
    have HF := Lib.hid hF
    clear hF
    exact bodyPost_ret (v := .agg #[.slice a6 n6 c6]) (by simp [results, Tryd.results36, go_sem, *]) rfl HF.out
  by_cases h3 : p.op = 3
  · have HOP := Lib.hid h3
    go_enter Tryd.func36, Tryd.ntmps36
    go_wp2_with (first
      | (go_at_call 40; rw [← HW1.out]; refine (empty_any K (.slice a K.length c) _ w1 HP1.out.rn).mono ?_; rw [HL0.out]; rintro e w3 ⟨rfl, hb3⟩; obtain ⟨c0, c1, c2, q0, q7, HPX, HTX, H2X⟩ := ARM.out w3 hb3)
      | (go_at_call 45; refine (once_times s mb p rep b rv K (fun X w v hp ht => times_any s mb p rep b rv K HOP.out HNUM.out (stretch_any s) HE.out hl5 X w v hp ht) _ w3 (.slice a K.length c) HPX.out HTX.out).mono ?_; rintro e w4 ⟨a6, n6, c6, L6, rfl, hr6, he6, ho6, hm6⟩; have hr9 := (ho6.block (N + 1 + 1) (lt_of_block H2X.out) (fun h => h (HP.out.new_none (by omega)))).trans H2X.out; have hc9 := box_cell hr9; have hf9 := frozen_row (j := 0) hr9))
    have hF := Post.fin (R' := p.M s) HP.out HB1.out hN hr6 he6 ((Out.below hb3).trans ho6) hm6 (fun i x _ => Iff.rfl)
    have HF := Lib.hid hF
    clear hF
    exact bodyPost_ret (v := .agg #[.slice a6 n6 c6]) (by simp [results, Tryd.results36, go_sem, *]) rfl HF.out
  by_cases h4 : p.op = 4
  · have HOP := Lib.hid h4
    go_enter Tryd.func36, Tryd.ntmps36
    go_wp2_with (first
      | (go_at_call 40; rw [← HW1.out]; refine (empty_any K (.slice a K.length c) _ w1 HP1.out.rn).mono ?_; rw [HL0.out]; rintro e w3 ⟨rfl, hb3⟩; obtain ⟨c0, c1, c2, q0, q7, HPX, HTX, H2X⟩ := ARM.out w3 hb3)
      | (go_at_call 47; refine (alone_any s mb p rep b rv K 48 (fun X w v i hp ht => once_both s mb p rep b rv [(i, i)] (fun X w v hp ht => both_any s mb p rep b rv i HOP.out HE.out hl5 X w v hp ht) X w v hp ht) _ w3 (.slice a K.length c) HPX.out HTX.out).mono ?_; rintro e w4 ⟨a6, n6, c6, L6, rfl, hr6, he6, ho6, hm6⟩; have hr9 := (ho6.block (N + 1 + 1) (lt_of_block H2X.out) (fun h => h (HP.out.new_none (by omega)))).trans H2X.out; have hc9 := box_cell hr9; have hf9 := frozen_row (j := 0) hr9))
    have hF := Post.fin (R' := p.M s) HP.out HB1.out hN hr6 he6 ((Out.below hb3).trans ho6) hm6 (fun i x _ => Iff.rfl)
    have HF := Lib.hid hF
    clear hF
    exact bodyPost_ret (v := .agg #[.slice a6 n6 c6]) (by simp [results, Tryd.results36, go_sem, *]) rfl HF.out
  by_cases h5 : p.op = 5
  · have HOP := Lib.hid h5
    go_enter Tryd.func36, Tryd.ntmps36
    go_wp2_with (first
      | (go_at_call 40; rw [← HW1.out]; refine (empty_any K (.slice a K.length c) _ w1 HP1.out.rn).mono ?_; rw [HL0.out]; rintro e w3 ⟨rfl, hb3⟩; obtain ⟨c0, c1, c2, q0, q7, HPX, HTX, H2X⟩ := ARM.out w3 hb3)
      | (go_at_call 47; refine (alone_any s mb p rep b rv K 49 (fun X w v i hp ht => once_other s mb p rep b rv [(i, i)] (fun X w v hp ht => other_any s mb p rep b rv i HOP.out HE.out hl5 X w v hp ht) X w v hp ht) _ w3 (.slice a K.length c) HPX.out HTX.out).mono ?_; rintro e w4 ⟨a6, n6, c6, L6, rfl, hr6, he6, ho6, hm6⟩; have hr9 := (ho6.block (N + 1 + 1) (lt_of_block H2X.out) (fun h => h (HP.out.new_none (by omega)))).trans H2X.out; have hc9 := box_cell hr9; have hf9 := frozen_row (j := 0) hr9))
    have hF := Post.fin (R' := p.M s) HP.out HB1.out hN hr6 he6 ((Out.below hb3).trans ho6) hm6 (fun i x _ => Iff.rfl)
    have HF := Lib.hid hF
    clear hF
    exact bodyPost_ret (v := .agg #[.slice a6 n6 c6]) (by simp [results, Tryd.results36, go_sem, *]) rfl HF.out
  have g0 : (p.op == 0) = false := by simpa using h0
  have g1 : (p.op == 1) = false := by simpa using h1
  have g2 : (p.op == 2) = false := by simpa using h2
  have g3 : (p.op == 3) = false := by simpa using h3
  have g4 : (p.op == 4) = false := by simpa using h4
  have g5 : (p.op == 5) = false := by simpa using h5
  have HNO := Lib.hid (fun i x => M_none (s := s) (p := p) ⟨h0, h1, h2, h3, h4, h5⟩ i x)
  clear h0 h1 h2 h3 h4 h5
  go_enter Tryd.func36, Tryd.ntmps36
  go_wp2_with (go_at_call 40; rw [← HW1.out]; refine (empty_any K (.slice a K.length c) _ w1 HP1.out.rn).mono ?_; rw [HL0.out]; rintro e w3 ⟨rfl, hb3⟩; obtain ⟨c0, c1, c2, q0, q7, HPX, HTX, H2X⟩ := ARM.out w3 hb3; have hc9 := box_cell H2X.out; have hf9 := frozen_row (j := 0) H2X.out)
  have hF := Post.fin (R' := p.M s) (R := p.M s) HP.out HB1.out hN (w4 := w3) (Rn.nil w3 _) ⟨.nil, In.nil _, fun x => ⟨fun h => by simp [mem] at h, fun ⟨i, _, h⟩ => absurd h (HNO.out i x)⟩⟩ (Out.below hb3) HPX.out.memo (fun _ _ _ => Iff.rfl)
  have HF := Lib.hid hF
  clear hF
  exact bodyPost_ret (v := .agg #[.slice none 0 0]) (by simp [results, Tryd.results36, go_sem, *]) rfl HF.out
theorem kid_size {p q : Pat} (h : q ∈ p.kids) : q.size < p.size := by
  obtain ⟨i, hi, rfl⟩ := List.getElem_of_mem h
  have := size_kid p.kids i hi
  have := size_eq p
  omega
theorem ends_any (s : ByteArray) (mb : Nat → Option Pat) (p : Pat) : p.num = true → p.size < 10000 → ∀ rep b, EndsC s mb p rep b := by
  induction p using Pat.by_size with | h p ih => ?_
  intro hnum hsz rep b
  have hn := hnum
  rw [num_eq, Bool.and_eq_true, List.all_eq_true] at hn
  refine ends_step s mb p rep b hnum (fun q hq rep b => ih q hq (hn.2 q hq) (by have := kid_size hq; omega) rep b) (by have := length_sizes p.kids; have := size_eq p; omega)
end Go.Proofs.YtooaamepflkgnaaDoor
