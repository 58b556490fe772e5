/- Texts that a proof rests on: The contract of stretch. -/
import Derived.Test.YtooaamepflkgnaaDoorN29
set_option maxRecDepth 100000
namespace Go.Proofs.YtooaamepflkgnaaDoor
open Go.RowKit Go.Shelf
attribute [local go_sem] Oper.semAt_some

/-- The byte at a place is one of a set's. -/
def BB (s : ByteArray) (c : BitVec 256) (t : Int) : Prop := ∃ h : t.toNat < s.size, c.getLsbD s[t.toNat].toNat = true
theorem star_iff (s : ByteArray) (c : BitVec 256) (y z : Int) (hy : 0 ≤ y) : (∃ k, Pw (byteR s c) k y z) ↔ y ≤ z ∧ ∀ t, y ≤ t → t < z → BB s c t := by
  constructor
  · rintro ⟨k, h⟩
    induction k generalizing y with
    | zero => have h : y = z := h; exact ⟨by omega, fun t h1 h2 => by omega⟩
    | succ k ih =>
      obtain ⟨m, ⟨_, rfl, hb⟩, h2⟩ := h
      obtain ⟨h3, h4⟩ := ih (y + 1) (by omega) h2
      refine ⟨by omega, fun t h5 h6 => ?_⟩
      by_cases e : t = y
      · subst e; exact hb
      · exact h4 t (by omega) h6
  · rintro ⟨h1, h2⟩
    obtain ⟨k, hk⟩ : ∃ k : Nat, z = y + k := ⟨(z - y).toNat, by omega⟩
    subst hk
    refine ⟨k, ?_⟩
    clear h1
    induction k generalizing y with
    | zero => show y = _; simp
    | succ k ih =>
      refine ⟨y + 1, ⟨hy, rfl, h2 y (by omega) (by omega)⟩, ?_⟩
      have := ih (y + 1) (by omega) (fun t h3 h4 => h2 t (by omega) (by omega))
      rw [show y + ((k + 1 : Nat) : Int) = y + 1 + (k : Int) by omega]
      exact this
theorem seg_sorted (a : Int) (m : Nat) : (seg a m).Pairwise (· < ·) := by
  unfold seg
  rw [List.pairwise_map]
  exact (List.pairwise_lt_range (n := m)).imp fun h => by omega
theorem ints_sorted : ∀ {L : List (Int × Int)}, Nrm L → (ints L).Pairwise (· < ·)
  | [], _ => by simp [ints]
  | r :: L, h => by
    obtain ⟨h1, h2, h3⟩ := Nrm.cons.1 h
    have e : ints (r :: L) = seg r.1 (r.2 + 1 - r.1).toNat ++ ints L := by simp [ints]
    rw [e, List.pairwise_append]
    refine ⟨seg_sorted _ _, ints_sorted h3, fun x hx y hy => ?_⟩
    obtain ⟨q, hq, h4, h5⟩ := (mem_ints L y).1 hy
    have := (mem_seg _ _ _).1 hx
    have := h2 q hq
    omega
/-- What a loop over a set's numbers has collected, if they came rising. -/
def CollS (bp : Nat) (n : Int) (f : Int → Int → Prop) (w0 : World) (pre : List Int) (W : World) : Prop := ∃ J v, SetB W bp (bp + 1) v J ∧ Nrm J ∧ In n J ∧ (pre.Pairwise (· < ·) → ∀ x, mem J x ↔ ∃ y ∈ pre, f y x) ∧ Below bp w0 W
theorem CollS.own {K : List (Int × Int)} {bp : Nat} {n : Int} {f : Int → Int → Prop} {w0 : World} {B : Nat} (hB : bp < B) : OwnFrom B (fun (pre : List (Of K)) W => CollS bp n f w0 (pre.map (·.1)) W) := by
  rintro pre W W' row ⟨J, v, hs, h1, h2, h3, h4⟩ hg hr
  exact ⟨J, v, hs.row hg (fun r e => (hr r e).2), h1, h2, h3, h4.grown hg (Nat.le_of_lt hs.lt) (fun k e => by have := (hr k e).1; omega)⟩
set_option linter.unusedSimpArgs false in
set_option maxHeartbeats 8000000 in
theorem stretch_any (s : ByteArray) : StretchC s := by
  intro mb X w v rv K cs hp
  obtain ⟨a, c, rfl⟩ := hp.rn.len
  have hsz := hp.sz
  obtain ⟨N, hN⟩ : ∃ N, w.heap.size = N := ⟨_, rfl⟩
  obtain ⟨hb5, hsz5, h0, h1, h2, h3, h4⟩ := five_rows w #[rv, .string s] #[.int .u64 (wd cs 0), .int .u64 (wd cs 1), .int .u64 (wd cs 2), .int .u64 (wd cs 3)] #[.slice a K.length c] #[.slice none 0 0] #[.slice none 0 0] 53 25 61 61 61 N hN
  obtain ⟨w5, hw5⟩ : ∃ w5, w5 = ((((w.alloc (.cells #[rv, .string s] 53)).alloc (.cells #[.int .u64 (wd cs 0), .int .u64 (wd cs 1), .int .u64 (wd cs 2), .int .u64 (wd cs 3)] 25)).alloc (.cells #[.slice a K.length c] 61)).alloc (.cells #[.slice none 0 0] 61)).alloc (.cells #[.slice none 0 0] 61) := ⟨_, rfl⟩
  rw [← hw5] at hb5 hsz5 h0 h1 h2 h3 h4
  have hb5' : Below w.heap.size w w5 := by rw [hN]; exact hb5
  have hbs := below_one w5 (.cells #[.slice a K.length c] 61)
  obtain ⟨w6, hw6⟩ : ∃ w6, w6 = w5.alloc (.cells #[.slice a K.length c] 61) := ⟨_, rfl⟩
  have hnb : w6.heap[N + 5]? = some (.cells #[.slice a K.length c] 61 (0, 0)) := by rw [hw6, ← hsz5]; exact heap_alloc_new w5 _
  rw [← hw6] at hbs
  have hb6 : Below w.heap.size w w6 := hb5'.trans (hbs.mono hb5'.size)
  have hsz6 : w6.heap.size = N + 6 := by rw [hw6]; simp [hsz5]
  have hs6 : SetB w6 (N + 1 + 1 + 1 + 1) (N + 1 + 1 + 1 + 1 + 1) (.slice none 0 0) [] := ⟨(hbs.block (N + 4) (by omega)).trans h4, RRow.nil _ _, by omega, by omega⟩
  have hfar := hp.rn.far (Out.below (X := Xm mb) hb6) hp.xm
  have hr6 : Rn w6 (Bad (N + 1 + 1 + 1 + 1) (fun _ => False) w6) (.slice a K.length c) K := hfar.weak fun k _ h => by
    rcases h with e | e | e
    · exact .inr (by omega)
    · rw [hs6.ownAt] at e; simp [Value.ownBlock] at e
    · exact e.elim
  have hstop := all_stops 2 (by omega) (N + 5) (N + 1 + 1 + 1 + 1) 91 (fun _ => False) (.slice a K.length c) K w6 hnb (hs6.fit (fun _ h => h.elim)) hr6 (hp.inn.bd hp.nrm (by omega)) hp.nrm (by have := hp.inn.ints hp.nrm (by omega); omega) (hp.inn.small hp.nrm (by omega) (by omega))
  have h06 := (hbs.block N (by omega)).trans h0
  have h16 := (hbs.block (N + 1) (by omega)).trans h1
  have h36 := (hbs.block (N + 3) (by omega)).trans h3
  have HP := Lib.hid hp
  have HW5 := Lib.hid hw5
  have HW6 := Lib.hid hw6
  have HR5 := Lib.hid (hp.rn.below hb5')
  have H06 := Lib.hid h06
  have H16 := Lib.hid h16
  have H36 := Lib.hid h36
  have HB6 := Lib.hid hb6
  have HS6 := Lib.hid hs6
  have HST := Lib.hid hstop
  clear hp hw5 hw6 hb5 hb5' hbs h0 h1 h2 h3 h4 h06 h16 h36 hb6 hnb hfar hr6 hstop hs6
  refine (callsIn_wide (n := 3)).1 ?_
  refine callsIn_of_wp_marks Tryd.func61 rfl trivial ?_ rfl
  simp only [Tryd.ntmps61, List.size_toArray, List.length_cons, List.length_nil, Nat.reduceAdd, Nat.reduceSub, Array.replicate_succ, Array.replicate_zero, List.push_toArray, List.append_toArray, List.nil_append, List.cons_append]
  gi_wp2_with (refine ⟨trivial, ?_⟩; gi_at_call 31; rw [← HW5.out]; refine (callsIn_wide.2 (all_any (.slice a K.length c) K _ w5 HR5.out)).mono ?_; rw [← HW6.out, hsz5]; rintro e w' ⟨rfl, rfl⟩)
  refine wpIn_rangeFunc_ownH rfl (by omega) (gf := 38) (lb := #[.pointer (some ⟨N + 5, 0, none⟩)]) rfl trivial (enters_of Tryd.func38 (by kernel_rfl) rfl)
    HST.out KeepV.trans (fun W l o o' h1 h2 h3 h4 => keepV_b (n₀ := w'.heap.size) (by omega) W l o o' h1 h2 h3 h4) (Below.refl _ _) (fun _ => rfl)
    (fun pre W => CollS (N + 1 + 1 + 1 + 1) s.size (fun y z => ∃ k, Pw (byteR s cs) k y z) w' (pre.map (·.1)) W) (fun _ _ _ => False)
    (CollS.own (by omega)) (fun _ _ _ _ _ h _ _ => h)
    ⟨[], _, HS6.out, .nil, In.nil _, fun _ x => by simp [mem], Below.refl _ _⟩
    (fun x a' _ => a' = { tmps := #[mV rv s, (.agg #[.int .u64 (wd (cs) 0), .int .u64 (wd (cs) 1), .int .u64 (wd (cs) 2), .int .u64 (wd (cs) 3)]), .agg #[.slice a K.length c], pV N, pV (N + 1), pV (N + 1 + 1), pV (N + 1 + 1 + 1), pV (N + 1 + 1 + 1 + 1), .int .i64 x.1, undef, undef, undef, .agg #[.slice a K.length c], .func (.func 38) #[] #[pV (N + 5)], .int .i64 x.1, undef, undef, undef, undef, undef, undef, undef, undef, undef, undef, undef, undef, undef, undef, undef, undef, undef, undef, undef, undef, undef, undef, undef, undef, undef, undef, undef, undef, undef, undef, undef], defers := [] }) (fun x a' _ X Y row hs hg hr => hs)
    ?assign ?body ?done ?stop
  case assign =>
    rintro l pre x W K' hI hK
    gi_wp2
    exact hK _ _ (KeepsFrom.refl _ _) (KeepV.below (Below.refl _ _) (by obtain ⟨_, _, hs, _⟩ := hI; exact hs.lt)) hI rfl
  case body =>
    rintro l pre x a' W hl ⟨r, hr⟩ ⟨J, v', hs, hJN, hJI, hJ, hbW⟩ rfl hlt
    obtain ⟨x, hx⟩ := x
    have hxr := HP.out.inn x hx
    obtain ⟨xn, rfl⟩ : ∃ n : Nat, x = n := ⟨x.toNat, by omega⟩
    dsimp only
    obtain ⟨c0, c1⟩ := pair_cells ((hbW.block N (by omega)).trans H06.out)
    have hb1W := (hbW.block (N + 1) (by omega)).trans H16.out
    have hbW0 := hs.lt
    obtain ⟨a8, c8, rfl, _⟩ := hs.2.1.form
    have hct := hs.cell
    have mixed : Tryd.prog.follows .mixedOrders = true := by kernel_rfl
    have hrnJ : Rn W (fun _ => False) (.slice a8 J.length c8) J := hs.rn.weak fun _ _ h => h.elim
    have hlen := hJI.small hJN (by omega) (by omega)
    have HS := Lib.hid hs
    have HJ := Lib.hid hJ
    have HBW := Lib.hid hbW
    have HLAST := Lib.hid (last_any J (.slice a8 J.length c8) (fun _ => False) W (by omega) hrnJ)
    have hlW : (N + 1 + 1 + 1 + 1) < W.heap.size := by have := hbW0; omega
    clear hs hJ hbW hrnJ
    by_cases hcont : J ≠ [] ∧ (xn : Int) ≤ lastR J
    · have hif : (if J = [] then (0 : Int) else lastR J) = lastR J := if_neg hcont.1
      have hde : decide (J ≠ []) = true := by simpa using hcont.1
      have hlg := last_good hJN hcont.1
      rw [hif, hde] at HLAST
      obtain ⟨lr, hlr⟩ : ∃ lr, lastR J = lr := ⟨_, rfl⟩
      rw [hlr] at HLAST hlg hcont
      have hle : decide ((xn : Int) ≤ lr) = true := by simpa using hcont.2
      have HLG := Lib.hid hlg
      have HCO := Lib.hid hcont
      clear hif hde hlr hlg hcont
      gi_wp2_with (refine ⟨trivial, ?_⟩; gi_at_call 33; refine (CallsIn.inRound l (callsIn_wide.2 HLAST.out)).mono ?_; rintro e w8 ⟨rfl, hb8⟩)
      refine ⟨(KeepsOthers.of_below hb8).from _, KeepV.below hb8 hlW, J, _, HS.out.below hb8, hJN, hJI, fun hpw z => ?_, HBW.out.trans (hb8.mono (by omega))⟩
      simp only [List.map_append, List.map_cons, List.map_nil] at hpw ⊢
      have hpw' := List.pairwise_append.1 hpw
      have hJ := HJ.out hpw'.1
      rw [hJ]
      simp only [List.mem_append, List.mem_singleton]
      refine ⟨fun ⟨y, h1, h2⟩ => ⟨y, .inl h1, h2⟩, ?_⟩
      rintro ⟨y, h1 | rfl, h2⟩
      · exact ⟨y, h1, h2⟩
      · obtain ⟨y, h3, h4⟩ := (hJ lr).1 HLG.out.1
        have h5 := hpw'.2.2 y h3 xn (by simp)
        have hy : 0 ≤ y := by
          simp only [List.mem_map] at h3
          obtain ⟨q, _, rfl⟩ := h3
          exact (HP.out.inn q.1 q.2).1
        obtain ⟨h6, h7⟩ := (star_iff s cs y lr hy).1 h4
        obtain ⟨h8, h9⟩ := (star_iff s cs xn z (by omega)).1 h2
        have h10 := HCO.out.2
        refine ⟨y, h3, (star_iff s cs y z hy).2 ⟨by omega, fun t h11 h12 => ?_⟩⟩
        by_cases h13 : t < lr
        · exact h7 t h11 h13
        · exact h9 t (by omega) h12
    · by_cases hJ0 : J = []
      · have hif : (if J = [] then (0 : Int) else lastR J) = 0 := if_pos hJ0
        have hde : decide (J ≠ []) = false := by simpa using hJ0
        rw [hif, hde] at HLAST
        clear hif hde hcont hJ0
        gi_wp2_with (refine ⟨trivial, ?_⟩; gi_at_call 33; refine (CallsIn.inRound l (callsIn_wide.2 HLAST.out)).mono ?_; rintro e w8 ⟨rfl, hb8⟩)
        gi_loopw [11] (fun x wi => ∃ m : Nat, x = .int .i64 (m : Int) ∧ xn ≤ m ∧ m ≤ s.size ∧ (∀ t : Int, (xn : Int) ≤ t → t < m → BB s cs t) ∧ Below W.heap.size W wi) (fun x _ => s.size - (intOf x).toNat)
        case atStart => exact ⟨xn, rfl, Nat.le_refl _, by omega, fun t h1 h2 => by omega, hb8⟩
        case round =>
          obtain ⟨m, rfl, hm1, hm2, hrun, hbi⟩ := hrel
          have HRUN := Lib.hid hrun
          clear hrun
          have d1 : wr.cell? ⟨N, 1, none⟩ = some (.string s) := cell_below hbi c1
          have hbx := (hbi.block (N + 1) (by omega)).trans hb1W
          have g1 : wr.cell? ⟨N + 1, 0, none⟩ = some (.int .u64 (wd cs 0)) := (cell_of_row _ _ 0 _ _ _ hbx).trans rfl
          have g2 : wr.cell? ⟨N + 1, 1, none⟩ = some (.int .u64 (wd cs 1)) := (cell_of_row _ _ 1 _ _ _ hbx).trans rfl
          have g3 : wr.cell? ⟨N + 1, 2, none⟩ = some (.int .u64 (wd cs 2)) := (cell_of_row _ _ 2 _ _ _ hbx).trans rfl
          have g4 : wr.cell? ⟨N + 1, 3, none⟩ = some (.int .u64 (wd cs 3)) := (cell_of_row _ _ 3 _ _ _ hbx).trans rfl
          clear hbx
          by_cases hml : m < s.size
          · have hdec : decide ((m : Int) < s.size) = true := by simp; omega
            have hdec2 : decide (m < s.size) = true := by simp; omega
            have hx0 : (0 : Int) ≤ m := by omega
            have hx1 : (m : Int) < s.size := by omega
            gi_wp2
            refine region_round 13 rfl (fun W' => W'.cell? ⟨N, 1, none⟩ = some (.string s) ∧ W'.cell? ⟨N + 1, 0, none⟩ = some (.int .u64 (wd cs 0)) ∧ W'.cell? ⟨N + 1, 1, none⟩ = some (.int .u64 (wd cs 1)) ∧ W'.cell? ⟨N + 1, 2, none⟩ = some (.int .u64 (wd cs 2)) ∧ W'.cell? ⟨N + 1, 3, none⟩ = some (.int .u64 (wd cs 3)) ∧ Below W.heap.size W W') mixed (by simp) (fun ⟨_, _, h⟩ => h) ⟨d1, g1, g2, g3, g4, hbi.drew⟩ (fun hHeld => ?_)
            refine wpAnyH_take (i := 0) (v := ?v1) rfl (by kernel_rfl) (by kernel_rfl) (by kernel_rfl) (fun _ _ _ h => h) (Or.inl ⟨by rfl, ?hy1⟩) (by assumption) ?rest1
            case hy1 => (intro W9 hW9; obtain ⟨k0, k1, k2, k3, k4, k5⟩ := hW9; first | (go_simp; done) | (go_simp; with_reducible rfl))
            simp only [Act.put, List.getElem_toArray, List.getElem_cons_succ, List.getElem_cons_zero, List.setIfInBounds_toArray, List.set_cons_zero, List.set_cons_succ]
            refine wpAnyH_take (i := 1) (v := ?v2) rfl (by kernel_rfl) (by kernel_rfl) (by kernel_rfl) (fun _ _ _ h => h) (Or.inl ⟨by rfl, ?hy2⟩) (by assumption) ?rest2
            case hy2 => (intro W9 hW9; obtain ⟨k0, k1, k2, k3, k4, k5⟩ := hW9; first | (go_simp; done) | (go_simp; with_reducible rfl))
            simp only [Act.put, List.getElem_toArray, List.getElem_cons_succ, List.getElem_cons_zero, List.setIfInBounds_toArray, List.set_cons_zero, List.set_cons_succ]
            refine wpAnyH_take (i := 2) (v := ?v3) rfl (by kernel_rfl) (by kernel_rfl) (by kernel_rfl) (fun _ _ _ h => h) (Or.inl ⟨by rfl, ?hy3⟩) (by assumption) ?rest3
            case hy3 => (intro W9 hW9; obtain ⟨k0, k1, k2, k3, k4, k5⟩ := hW9; first | (go_simp; done) | (go_simp; with_reducible rfl))
            simp only [Act.put, List.getElem_toArray, List.getElem_cons_succ, List.getElem_cons_zero, List.setIfInBounds_toArray, List.set_cons_zero, List.set_cons_succ]
            refine wpAnyH_take (i := 3) (v := ?v4) rfl (by kernel_rfl) (by kernel_rfl) (by kernel_rfl) (fun _ _ _ h => h) (Or.inl ⟨by rfl, ?hy4⟩) (by assumption) ?rest4
            case hy4 => (intro W9 hW9; obtain ⟨k0, k1, k2, k3, k4, k5⟩ := hW9; first | (go_simp; done) | (go_simp; with_reducible rfl))
            simp only [Act.put, List.getElem_toArray, List.getElem_cons_succ, List.getElem_cons_zero, List.setIfInBounds_toArray, List.set_cons_zero, List.set_cons_succ]
            refine wpAnyH_take (i := 4) (v := .bool true) rfl (by kernel_rfl) (by kernel_rfl) (by kernel_rfl) (fun _ _ _ h => h) (Or.inl ⟨by rfl, ?hy5⟩) (by assumption) ?rest5
            case hy5 => (intro W9 hW9; obtain ⟨k0, k1, k2, k3, k4, k5⟩ := hW9; first | (go_simp; done) | (go_simp; with_reducible rfl))
            simp only [Act.put, List.getElem_toArray, List.getElem_cons_succ, List.getElem_cons_zero, List.setIfInBounds_toArray, List.set_cons_zero, List.set_cons_succ]
            refine wpAnyH_take (i := 5) (v := .bool true) rfl (by kernel_rfl) (by kernel_rfl) (by kernel_rfl) (fun _ _ _ h => h) (Or.inl ⟨by rfl, ?hy6⟩) (by assumption) ?rest6
            case hy6 => (intro W9 hW9; obtain ⟨k0, k1, k2, k3, k4, k5⟩ := hW9; first | (go_simp; done) | (go_simp; with_reducible rfl))
            simp only [Act.put, List.getElem_toArray, List.getElem_cons_succ, List.getElem_cons_zero, List.setIfInBounds_toArray, List.set_cons_zero, List.set_cons_succ]
            refine wpAnyH_take (i := 6) (v := ?v7) rfl (by kernel_rfl) (by kernel_rfl) (by kernel_rfl) (fun _ _ _ h => h) (Or.inl ⟨by rfl, ?hy7⟩) (by assumption) ?rest7
            case hy7 => (intro W9 hW9; obtain ⟨k0, k1, k2, k3, k4, k5⟩ := hW9; first | (go_simp; done) | (go_simp; with_reducible rfl))
            simp only [Act.put, List.getElem_toArray, List.getElem_cons_succ, List.getElem_cons_zero, List.setIfInBounds_toArray, List.set_cons_zero, List.set_cons_succ]
            refine wpAnyH_take (i := 7) (v := ?v8) rfl (by kernel_rfl) (by kernel_rfl) (by kernel_rfl) (fun _ _ _ h => h) (Or.inl ⟨by rfl, ?hy8⟩) (by assumption) ?rest8
            case hy8 => (intro W9 hW9; obtain ⟨k0, k1, k2, k3, k4, k5⟩ := hW9; first | (go_simp; done) | (go_simp; with_reducible rfl))
            simp only [Act.put, List.getElem_toArray, List.getElem_cons_succ, List.getElem_cons_zero, List.setIfInBounds_toArray, List.set_cons_zero, List.set_cons_succ]
            refine wpAnyH_take (i := 8) (v := ?v9) rfl (by kernel_rfl) (by kernel_rfl) (by kernel_rfl) (fun _ _ _ h => h) (Or.inl ⟨by rfl, ?hy9⟩) (by assumption) ?rest9
            case hy9 => (intro W9 hW9; obtain ⟨k0, k1, k2, k3, k4, k5⟩ := hW9; first | (go_simp; done) | (go_simp; with_reducible rfl))
            simp only [Act.put, List.getElem_toArray, List.getElem_cons_succ, List.getElem_cons_zero, List.setIfInBounds_toArray, List.set_cons_zero, List.set_cons_succ]
            refine wpAnyH_take (i := 9) (v := ?v10) rfl (by kernel_rfl) (by kernel_rfl) (by kernel_rfl) (fun _ _ _ h => h) (Or.inl ⟨by rfl, ?hy10⟩) (by assumption) ?rest10
            case hy10 => (intro W9 hW9; obtain ⟨k0, k1, k2, k3, k4, k5⟩ := hW9; first | (go_simp; done) | (go_simp; with_reducible rfl))
            simp only [Act.put, List.getElem_toArray, List.getElem_cons_succ, List.getElem_cons_zero, List.setIfInBounds_toArray, List.set_cons_zero, List.set_cons_succ]
            refine wpAnyH_take (i := 10) (v := ?v11) rfl (by kernel_rfl) (by kernel_rfl) (by kernel_rfl) (fun _ _ _ h => h) (Or.inl ⟨by rfl, ?hy11⟩) (by assumption) ?rest11
            case hy11 => (intro W9 hW9; obtain ⟨k0, k1, k2, k3, k4, k5⟩ := hW9; first | (go_simp; done) | (go_simp; with_reducible rfl))
            simp only [Act.put, List.getElem_toArray, List.getElem_cons_succ, List.getElem_cons_zero, List.setIfInBounds_toArray, List.set_cons_zero, List.set_cons_succ]
            refine wpAnyH_ready (rs := [11]) (by kernel_rfl) (by simp) ?_
            refine AllReadyH.cons rfl (fun K9 hK9 => ?_) AllReadyH.nil
            go_simp
            refine (has_any cs s[m].toNat (by have := s[m].toNat_lt; omega) _).mono ?_
            rintro e W9 ⟨rfl, hb9⟩
            obtain ⟨k0, k1, k2, k3, k4, k5⟩ := hHeld
            have hW9 : Below W.heap.size W W9 := k5.trans (hb9.mono k5.size)
            refine hK9.out _ _ ⟨cell_below hb9 k0, cell_below hb9 k1, cell_below hb9 k2, cell_below hb9 k3, cell_below hb9 k4, hW9⟩ (fun hHeld => ?_)
            clear hK9 K9 k0 k1 k2 k3 k4 k5
            rcases hbit : cs.getLsbD s[m].toNat with _ | _
            · refine wpAnyH_take (i := 12) (v := .bool false) rfl (by kernel_rfl) (by kernel_rfl) (by kernel_rfl) (fun _ _ _ h => h) (Or.inl ⟨by rfl, ?hy12⟩) (by assumption) ?rest12
              case hy12 => (intro W9 hW9; obtain ⟨k0, k1, k2, k3, k4, k5⟩ := hW9; first | (go_simp; done) | (go_simp; with_reducible rfl))
              simp only [Act.put, List.getElem_toArray, List.getElem_cons_succ, List.getElem_cons_zero, List.setIfInBounds_toArray, List.set_cons_zero, List.set_cons_succ]
              refine wpAnyH_done (by kernel_rfl) ?_ _
              have hstopm : ¬ BB s cs (m : Int) := by
                rintro ⟨h1, h2⟩
                simp only [Int.toNat_natCast] at h2
                rw [hbit] at h2
                cases h2
              have HSTM := Lib.hid hstopm
              clear hHeld hb9 hstopm hbit
              have hA0 := add_any (N + 1 + 1 + 1 + 1) (N + 1 + 1 + 1 + 1 + 1) (.slice a8 J.length c8) J (xn : Int) (m : Int) W9 (HS.out.below hW9) hJN hlen (hJI.bd hJN (by omega)) (by omega) (by omega)
              have HA0 := Lib.hid hA0
              clear hA0
              gi_wp2_with (refine ⟨trivial, ?_⟩; gi_at_call 50; refine (CallsIn.inRound l (callsIn_wide.2 HA0.out)).mono ?_; rintro e w9 ⟨rfl, hA⟩)
              have hs8 := HS.out.below hW9
              refine ⟨((KeepsOthers.of_below hW9).trans (hA.others hs8)).from _, (KeepV.below hW9 hlW).trans (hA.keepV hs8 _), ?_⟩
              have hbl := hA.below hs8
              obtain ⟨v9, hs9, _, _⟩ := hA
              refine ⟨_, v9, hs9, hJN.add _ _, fun z hz => ?_, fun hpw z => ?_, HBW.out.trans ((hW9.mono (by omega)).trans hbl)⟩
              · rcases (mem_add hJN _ _ z).1 hz with h | h
                · exact hJI z h
                · omega
              · rw [mem_add hJN]
                simp only [List.map_append, List.map_cons, List.map_nil] at hpw ⊢
                rw [HJ.out (List.pairwise_append.1 hpw).1]
                simp only [List.mem_append, List.mem_singleton]
                constructor
                · rintro (⟨y, h1, h2⟩ | h)
                  · exact ⟨y, .inl h1, h2⟩
                  · exact ⟨xn, .inr rfl, (star_iff s cs xn z (by omega)).2 ⟨h.1, fun t h3 h4 => HRUN.out t h3 (by omega)⟩⟩
                · rintro ⟨y, h1 | rfl, h2⟩
                  · exact .inl ⟨y, h1, h2⟩
                  · obtain ⟨h3, h4⟩ := (star_iff s cs xn z (by omega)).1 h2
                    refine .inr ⟨h3, ?_⟩
                    by_cases h5 : z ≤ m
                    · exact h5
                    · exact absurd (h4 m (by omega) (by omega)) HSTM.out
            · refine wpAnyH_take (i := 12) (v := .bool true) rfl (by kernel_rfl) (by kernel_rfl) (by kernel_rfl) (fun _ _ _ h => h) (Or.inl ⟨by rfl, ?hy13⟩) (by assumption) ?rest13
              case hy13 => (intro W9 hW9; obtain ⟨k0, k1, k2, k3, k4, k5⟩ := hW9; first | (go_simp; done) | (go_simp; with_reducible rfl))
              simp only [Act.put, List.getElem_toArray, List.getElem_cons_succ, List.getElem_cons_zero, List.setIfInBounds_toArray, List.set_cons_zero, List.set_cons_succ]
              refine wpAnyH_done (by kernel_rfl) ?_ _
              have HBIT := Lib.hid hbit
              clear hHeld hb9 hbit
              gi_wp2
              go_roundw
              case rel => exact ⟨m + 1, num_succ m, by omega, by omega, fun t h1 h2 => by
                by_cases h3 : t < m
                · exact HRUN.out t h1 h3
                · obtain rfl : t = m := by omega
                  exact ⟨by simpa using hml, by simpa using HBIT.out⟩, hW9⟩
              case measure => simp [intOf]; omega
          · obtain rfl : m = s.size := by omega
            have hdec : decide ((s.size : Int) < s.size) = false := by simp
            have hdec2 : decide (s.size < s.size) = false := by simp
            gi_wp2
            refine region_round 13 rfl (fun W' => W'.cell? ⟨N, 1, none⟩ = some (.string s) ∧ W'.cell? ⟨N + 1, 0, none⟩ = some (.int .u64 (wd cs 0)) ∧ W'.cell? ⟨N + 1, 1, none⟩ = some (.int .u64 (wd cs 1)) ∧ W'.cell? ⟨N + 1, 2, none⟩ = some (.int .u64 (wd cs 2)) ∧ W'.cell? ⟨N + 1, 3, none⟩ = some (.int .u64 (wd cs 3)) ∧ Below W.heap.size W W') mixed (by simp) (fun ⟨_, _, h⟩ => h) ⟨d1, g1, g2, g3, g4, hbi.drew⟩ (fun hHeld => ?_)
            refine wpAnyH_take (i := 0) (v := ?v14) rfl (by kernel_rfl) (by kernel_rfl) (by kernel_rfl) (fun _ _ _ h => h) (Or.inl ⟨by rfl, ?hy14⟩) (by assumption) ?rest14
            case hy14 => (intro W9 hW9; obtain ⟨k0, k1, k2, k3, k4, k5⟩ := hW9; first | (go_simp; done) | (go_simp; with_reducible rfl))
            simp only [Act.put, List.getElem_toArray, List.getElem_cons_succ, List.getElem_cons_zero, List.setIfInBounds_toArray, List.set_cons_zero, List.set_cons_succ]
            refine wpAnyH_take (i := 1) (v := ?v15) rfl (by kernel_rfl) (by kernel_rfl) (by kernel_rfl) (fun _ _ _ h => h) (Or.inl ⟨by rfl, ?hy15⟩) (by assumption) ?rest15
            case hy15 => (intro W9 hW9; obtain ⟨k0, k1, k2, k3, k4, k5⟩ := hW9; first | (go_simp; done) | (go_simp; with_reducible rfl))
            simp only [Act.put, List.getElem_toArray, List.getElem_cons_succ, List.getElem_cons_zero, List.setIfInBounds_toArray, List.set_cons_zero, List.set_cons_succ]
            refine wpAnyH_take (i := 2) (v := ?v16) rfl (by kernel_rfl) (by kernel_rfl) (by kernel_rfl) (fun _ _ _ h => h) (Or.inl ⟨by rfl, ?hy16⟩) (by assumption) ?rest16
            case hy16 => (intro W9 hW9; obtain ⟨k0, k1, k2, k3, k4, k5⟩ := hW9; first | (go_simp; done) | (go_simp; with_reducible rfl))
            simp only [Act.put, List.getElem_toArray, List.getElem_cons_succ, List.getElem_cons_zero, List.setIfInBounds_toArray, List.set_cons_zero, List.set_cons_succ]
            refine wpAnyH_take (i := 3) (v := ?v17) rfl (by kernel_rfl) (by kernel_rfl) (by kernel_rfl) (fun _ _ _ h => h) (Or.inl ⟨by rfl, ?hy17⟩) (by assumption) ?rest17
            case hy17 => (intro W9 hW9; obtain ⟨k0, k1, k2, k3, k4, k5⟩ := hW9; first | (go_simp; done) | (go_simp; with_reducible rfl))
            simp only [Act.put, List.getElem_toArray, List.getElem_cons_succ, List.getElem_cons_zero, List.setIfInBounds_toArray, List.set_cons_zero, List.set_cons_succ]
            refine wpAnyH_take (i := 4) (v := .bool false) rfl (by kernel_rfl) (by kernel_rfl) (by kernel_rfl) (fun _ _ _ h => h) (Or.inl ⟨by rfl, ?hy18⟩) (by assumption) ?rest18
            case hy18 => (intro W9 hW9; obtain ⟨k0, k1, k2, k3, k4, k5⟩ := hW9; first | (go_simp; done) | (go_simp; with_reducible rfl))
            simp only [Act.put, List.getElem_toArray, List.getElem_cons_succ, List.getElem_cons_zero, List.setIfInBounds_toArray, List.set_cons_zero, List.set_cons_succ]
            refine wpAnyH_take (i := 5) (v := .bool false) rfl (by kernel_rfl) (by kernel_rfl) (by kernel_rfl) (fun _ _ _ h => h) (Or.inl ⟨by rfl, ?hy19⟩) (by assumption) ?rest19
            case hy19 => (intro W9 hW9; obtain ⟨k0, k1, k2, k3, k4, k5⟩ := hW9; first | (go_simp; done) | (go_simp; with_reducible rfl))
            simp only [Act.put, List.getElem_toArray, List.getElem_cons_succ, List.getElem_cons_zero, List.setIfInBounds_toArray, List.set_cons_zero, List.set_cons_succ]
            refine wpAnyH_take (i := 6) (v := undef) rfl (by kernel_rfl) (by kernel_rfl) (by kernel_rfl) (fun _ _ _ h => h) (Or.inr ⟨by rfl, rfl⟩) (by assumption) ?_
            simp only [Act.put, List.getElem_toArray, List.getElem_cons_succ, List.getElem_cons_zero, List.setIfInBounds_toArray, List.set_cons_zero, List.set_cons_succ]
            refine wpAnyH_take (i := 7) (v := undef) rfl (by kernel_rfl) (by kernel_rfl) (by kernel_rfl) (fun _ _ _ h => h) (Or.inr ⟨by rfl, rfl⟩) (by assumption) ?_
            simp only [Act.put, List.getElem_toArray, List.getElem_cons_succ, List.getElem_cons_zero, List.setIfInBounds_toArray, List.set_cons_zero, List.set_cons_succ]
            refine wpAnyH_take (i := 8) (v := undef) rfl (by kernel_rfl) (by kernel_rfl) (by kernel_rfl) (fun _ _ _ h => h) (Or.inr ⟨by rfl, rfl⟩) (by assumption) ?_
            simp only [Act.put, List.getElem_toArray, List.getElem_cons_succ, List.getElem_cons_zero, List.setIfInBounds_toArray, List.set_cons_zero, List.set_cons_succ]
            refine wpAnyH_take (i := 9) (v := undef) rfl (by kernel_rfl) (by kernel_rfl) (by kernel_rfl) (fun _ _ _ h => h) (Or.inr ⟨by rfl, rfl⟩) (by assumption) ?_
            simp only [Act.put, List.getElem_toArray, List.getElem_cons_succ, List.getElem_cons_zero, List.setIfInBounds_toArray, List.set_cons_zero, List.set_cons_succ]
            refine wpAnyH_take (i := 10) (v := undef) rfl (by kernel_rfl) (by kernel_rfl) (by kernel_rfl) (fun _ _ _ h => h) (Or.inr ⟨by rfl, rfl⟩) (by assumption) ?_
            simp only [Act.put, List.getElem_toArray, List.getElem_cons_succ, List.getElem_cons_zero, List.setIfInBounds_toArray, List.set_cons_zero, List.set_cons_succ]
            refine wpAnyH_take (i := 11) (v := undef) rfl (by kernel_rfl) (by kernel_rfl) (by kernel_rfl) (fun _ _ _ h => h) (Or.inr ⟨by rfl, rfl⟩) (by assumption) ?_
            simp only [Act.put, List.getElem_toArray, List.getElem_cons_succ, List.getElem_cons_zero, List.setIfInBounds_toArray, List.set_cons_zero, List.set_cons_succ]
            refine wpAnyH_take (i := 12) (v := .bool false) rfl (by kernel_rfl) (by kernel_rfl) (by kernel_rfl) (fun _ _ _ h => h) (Or.inl ⟨by rfl, ?hy20⟩) (by assumption) ?rest20
            case hy20 => (intro W9 hW9; obtain ⟨k0, k1, k2, k3, k4, k5⟩ := hW9; first | (go_simp; done) | (go_simp; with_reducible rfl))
            simp only [Act.put, List.getElem_toArray, List.getElem_cons_succ, List.getElem_cons_zero, List.setIfInBounds_toArray, List.set_cons_zero, List.set_cons_succ]
            refine wpAnyH_done (by kernel_rfl) ?_ _
            have hstopm : ¬ BB s cs ((s.size : Nat) : Int) := by
              rintro ⟨h1, h2⟩
              simp at h1
            obtain ⟨W9, hW9e⟩ : ∃ W9, wr.drew = W9 := ⟨_, rfl⟩
            have hW9 : Below W.heap.size W W9 := by rw [← hW9e]; exact hbi.drew
            rw [hW9e]
            have HSTM := Lib.hid hstopm
            clear hW9e hHeld hstopm
            have hA0 := add_any (N + 1 + 1 + 1 + 1) (N + 1 + 1 + 1 + 1 + 1) (.slice a8 J.length c8) J (xn : Int) (s.size : Int) W9 (HS.out.below hW9) hJN hlen (hJI.bd hJN (by omega)) (by omega) (by omega)
            have HA0 := Lib.hid hA0
            clear hA0
            gi_wp2_with (refine ⟨trivial, ?_⟩; gi_at_call 50; refine (CallsIn.inRound l (callsIn_wide.2 HA0.out)).mono ?_; rintro e w9 ⟨rfl, hA⟩)
            have hs8 := HS.out.below hW9
            refine ⟨((KeepsOthers.of_below hW9).trans (hA.others hs8)).from _, (KeepV.below hW9 hlW).trans (hA.keepV hs8 _), ?_⟩
            have hbl := hA.below hs8
            obtain ⟨v9, hs9, _, _⟩ := hA
            refine ⟨_, v9, hs9, hJN.add _ _, fun z hz => ?_, fun hpw z => ?_, HBW.out.trans ((hW9.mono (by omega)).trans hbl)⟩
            · rcases (mem_add hJN _ _ z).1 hz with h | h
              · exact hJI z h
              · omega
            · rw [mem_add hJN]
              simp only [List.map_append, List.map_cons, List.map_nil] at hpw ⊢
              rw [HJ.out (List.pairwise_append.1 hpw).1]
              simp only [List.mem_append, List.mem_singleton]
              constructor
              · rintro (⟨y, h1, h2⟩ | h)
                · exact ⟨y, .inl h1, h2⟩
                · exact ⟨xn, .inr rfl, (star_iff s cs xn z (by omega)).2 ⟨h.1, fun t h3 h4 => HRUN.out t h3 (by omega)⟩⟩
              · rintro ⟨y, h1 | rfl, h2⟩
                · exact .inl ⟨y, h1, h2⟩
                · obtain ⟨h3, h4⟩ := (star_iff s cs xn z (by omega)).1 h2
                  refine .inr ⟨h3, ?_⟩
                  by_cases h5 : z ≤ s.size
                  · exact h5
                  · exact absurd (h4 s.size (by omega) (by omega)) HSTM.out
      · have hif : (if J = [] then (0 : Int) else lastR J) = lastR J := if_neg hJ0
        have hde : decide (J ≠ []) = true := by simpa using hJ0
        rw [hif, hde] at HLAST
        obtain ⟨lr, hlr⟩ : ∃ lr, lastR J = lr := ⟨_, rfl⟩
        rw [hlr] at HLAST hcont
        have hle : decide ((xn : Int) ≤ lr) = false := by
          have h9 : ¬ ((xn : Int) ≤ lr) := fun h => hcont ⟨hJ0, h⟩
          simpa using h9
        clear hif hde hcont hJ0 hlr
        gi_wp2_with (refine ⟨trivial, ?_⟩; gi_at_call 33; refine (CallsIn.inRound l (callsIn_wide.2 HLAST.out)).mono ?_; rintro e w8 ⟨rfl, hb8⟩)
        gi_loopw [11] (fun x wi => ∃ m : Nat, x = .int .i64 (m : Int) ∧ xn ≤ m ∧ m ≤ s.size ∧ (∀ t : Int, (xn : Int) ≤ t → t < m → BB s cs t) ∧ Below W.heap.size W wi) (fun x _ => s.size - (intOf x).toNat)
        case atStart => exact ⟨xn, rfl, Nat.le_refl _, by omega, fun t h1 h2 => by omega, hb8⟩
        case round =>
          obtain ⟨m, rfl, hm1, hm2, hrun, hbi⟩ := hrel
          have HRUN := Lib.hid hrun
          clear hrun
          have d1 : wr.cell? ⟨N, 1, none⟩ = some (.string s) := cell_below hbi c1
          have hbx := (hbi.block (N + 1) (by omega)).trans hb1W
          have g1 : wr.cell? ⟨N + 1, 0, none⟩ = some (.int .u64 (wd cs 0)) := (cell_of_row _ _ 0 _ _ _ hbx).trans rfl
          have g2 : wr.cell? ⟨N + 1, 1, none⟩ = some (.int .u64 (wd cs 1)) := (cell_of_row _ _ 1 _ _ _ hbx).trans rfl
          have g3 : wr.cell? ⟨N + 1, 2, none⟩ = some (.int .u64 (wd cs 2)) := (cell_of_row _ _ 2 _ _ _ hbx).trans rfl
          have g4 : wr.cell? ⟨N + 1, 3, none⟩ = some (.int .u64 (wd cs 3)) := (cell_of_row _ _ 3 _ _ _ hbx).trans rfl
          clear hbx
          by_cases hml : m < s.size
          · have hdec : decide ((m : Int) < s.size) = true := by simp; omega
            have hdec2 : decide (m < s.size) = true := by simp; omega
            have hx0 : (0 : Int) ≤ m := by omega
            have hx1 : (m : Int) < s.size := by omega
            gi_wp2
            refine region_round 13 rfl (fun W' => W'.cell? ⟨N, 1, none⟩ = some (.string s) ∧ W'.cell? ⟨N + 1, 0, none⟩ = some (.int .u64 (wd cs 0)) ∧ W'.cell? ⟨N + 1, 1, none⟩ = some (.int .u64 (wd cs 1)) ∧ W'.cell? ⟨N + 1, 2, none⟩ = some (.int .u64 (wd cs 2)) ∧ W'.cell? ⟨N + 1, 3, none⟩ = some (.int .u64 (wd cs 3)) ∧ Below W.heap.size W W') mixed (by simp) (fun ⟨_, _, h⟩ => h) ⟨d1, g1, g2, g3, g4, hbi.drew⟩ (fun hHeld => ?_)
            refine wpAnyH_take (i := 0) (v := ?v21) rfl (by kernel_rfl) (by kernel_rfl) (by kernel_rfl) (fun _ _ _ h => h) (Or.inl ⟨by rfl, ?hy21⟩) (by assumption) ?rest21
            case hy21 => (intro W9 hW9; obtain ⟨k0, k1, k2, k3, k4, k5⟩ := hW9; first | (go_simp; done) | (go_simp; with_reducible rfl))
            simp only [Act.put, List.getElem_toArray, List.getElem_cons_succ, List.getElem_cons_zero, List.setIfInBounds_toArray, List.set_cons_zero, List.set_cons_succ]
            refine wpAnyH_take (i := 1) (v := ?v22) rfl (by kernel_rfl) (by kernel_rfl) (by kernel_rfl) (fun _ _ _ h => h) (Or.inl ⟨by rfl, ?hy22⟩) (by assumption) ?rest22
            case hy22 => (intro W9 hW9; obtain ⟨k0, k1, k2, k3, k4, k5⟩ := hW9; first | (go_simp; done) | (go_simp; with_reducible rfl))
            simp only [Act.put, List.getElem_toArray, List.getElem_cons_succ, List.getElem_cons_zero, List.setIfInBounds_toArray, List.set_cons_zero, List.set_cons_succ]
            refine wpAnyH_take (i := 2) (v := ?v23) rfl (by kernel_rfl) (by kernel_rfl) (by kernel_rfl) (fun _ _ _ h => h) (Or.inl ⟨by rfl, ?hy23⟩) (by assumption) ?rest23
            case hy23 => (intro W9 hW9; obtain ⟨k0, k1, k2, k3, k4, k5⟩ := hW9; first | (go_simp; done) | (go_simp; with_reducible rfl))
            simp only [Act.put, List.getElem_toArray, List.getElem_cons_succ, List.getElem_cons_zero, List.setIfInBounds_toArray, List.set_cons_zero, List.set_cons_succ]
            refine wpAnyH_take (i := 3) (v := ?v24) rfl (by kernel_rfl) (by kernel_rfl) (by kernel_rfl) (fun _ _ _ h => h) (Or.inl ⟨by rfl, ?hy24⟩) (by assumption) ?rest24
            case hy24 => (intro W9 hW9; obtain ⟨k0, k1, k2, k3, k4, k5⟩ := hW9; first | (go_simp; done) | (go_simp; with_reducible rfl))
            simp only [Act.put, List.getElem_toArray, List.getElem_cons_succ, List.getElem_cons_zero, List.setIfInBounds_toArray, List.set_cons_zero, List.set_cons_succ]
            refine wpAnyH_take (i := 4) (v := .bool true) rfl (by kernel_rfl) (by kernel_rfl) (by kernel_rfl) (fun _ _ _ h => h) (Or.inl ⟨by rfl, ?hy25⟩) (by assumption) ?rest25
            case hy25 => (intro W9 hW9; obtain ⟨k0, k1, k2, k3, k4, k5⟩ := hW9; first | (go_simp; done) | (go_simp; with_reducible rfl))
            simp only [Act.put, List.getElem_toArray, List.getElem_cons_succ, List.getElem_cons_zero, List.setIfInBounds_toArray, List.set_cons_zero, List.set_cons_succ]
            refine wpAnyH_take (i := 5) (v := .bool true) rfl (by kernel_rfl) (by kernel_rfl) (by kernel_rfl) (fun _ _ _ h => h) (Or.inl ⟨by rfl, ?hy26⟩) (by assumption) ?rest26
            case hy26 => (intro W9 hW9; obtain ⟨k0, k1, k2, k3, k4, k5⟩ := hW9; first | (go_simp; done) | (go_simp; with_reducible rfl))
            simp only [Act.put, List.getElem_toArray, List.getElem_cons_succ, List.getElem_cons_zero, List.setIfInBounds_toArray, List.set_cons_zero, List.set_cons_succ]
            refine wpAnyH_take (i := 6) (v := ?v27) rfl (by kernel_rfl) (by kernel_rfl) (by kernel_rfl) (fun _ _ _ h => h) (Or.inl ⟨by rfl, ?hy27⟩) (by assumption) ?rest27
            case hy27 => (intro W9 hW9; obtain ⟨k0, k1, k2, k3, k4, k5⟩ := hW9; first | (go_simp; done) | (go_simp; with_reducible rfl))
            simp only [Act.put, List.getElem_toArray, List.getElem_cons_succ, List.getElem_cons_zero, List.setIfInBounds_toArray, List.set_cons_zero, List.set_cons_succ]
            refine wpAnyH_take (i := 7) (v := ?v28) rfl (by kernel_rfl) (by kernel_rfl) (by kernel_rfl) (fun _ _ _ h => h) (Or.inl ⟨by rfl, ?hy28⟩) (by assumption) ?rest28
            case hy28 => (intro W9 hW9; obtain ⟨k0, k1, k2, k3, k4, k5⟩ := hW9; first | (go_simp; done) | (go_simp; with_reducible rfl))
            simp only [Act.put, List.getElem_toArray, List.getElem_cons_succ, List.getElem_cons_zero, List.setIfInBounds_toArray, List.set_cons_zero, List.set_cons_succ]
            refine wpAnyH_take (i := 8) (v := ?v29) rfl (by kernel_rfl) (by kernel_rfl) (by kernel_rfl) (fun _ _ _ h => h) (Or.inl ⟨by rfl, ?hy29⟩) (by assumption) ?rest29
            case hy29 => (intro W9 hW9; obtain ⟨k0, k1, k2, k3, k4, k5⟩ := hW9; first | (go_simp; done) | (go_simp; with_reducible rfl))
            simp only [Act.put, List.getElem_toArray, List.getElem_cons_succ, List.getElem_cons_zero, List.setIfInBounds_toArray, List.set_cons_zero, List.set_cons_succ]
            refine wpAnyH_take (i := 9) (v := ?v30) rfl (by kernel_rfl) (by kernel_rfl) (by kernel_rfl) (fun _ _ _ h => h) (Or.inl ⟨by rfl, ?hy30⟩) (by assumption) ?rest30
            case hy30 => (intro W9 hW9; obtain ⟨k0, k1, k2, k3, k4, k5⟩ := hW9; first | (go_simp; done) | (go_simp; with_reducible rfl))
            simp only [Act.put, List.getElem_toArray, List.getElem_cons_succ, List.getElem_cons_zero, List.setIfInBounds_toArray, List.set_cons_zero, List.set_cons_succ]
            refine wpAnyH_take (i := 10) (v := ?v31) rfl (by kernel_rfl) (by kernel_rfl) (by kernel_rfl) (fun _ _ _ h => h) (Or.inl ⟨by rfl, ?hy31⟩) (by assumption) ?rest31
            case hy31 => (intro W9 hW9; obtain ⟨k0, k1, k2, k3, k4, k5⟩ := hW9; first | (go_simp; done) | (go_simp; with_reducible rfl))
            simp only [Act.put, List.getElem_toArray, List.getElem_cons_succ, List.getElem_cons_zero, List.setIfInBounds_toArray, List.set_cons_zero, List.set_cons_succ]
            refine wpAnyH_ready (rs := [11]) (by kernel_rfl) (by simp) ?_
            refine AllReadyH.cons rfl (fun K9 hK9 => ?_) AllReadyH.nil
            go_simp
            refine (has_any cs s[m].toNat (by have := s[m].toNat_lt; omega) _).mono ?_
            rintro e W9 ⟨rfl, hb9⟩
            obtain ⟨k0, k1, k2, k3, k4, k5⟩ := hHeld
            have hW9 : Below W.heap.size W W9 := k5.trans (hb9.mono k5.size)
            refine hK9.out _ _ ⟨cell_below hb9 k0, cell_below hb9 k1, cell_below hb9 k2, cell_below hb9 k3, cell_below hb9 k4, hW9⟩ (fun hHeld => ?_)
            clear hK9 K9 k0 k1 k2 k3 k4 k5
            rcases hbit : cs.getLsbD s[m].toNat with _ | _
            · refine wpAnyH_take (i := 12) (v := .bool false) rfl (by kernel_rfl) (by kernel_rfl) (by kernel_rfl) (fun _ _ _ h => h) (Or.inl ⟨by rfl, ?hy32⟩) (by assumption) ?rest32
              case hy32 => (intro W9 hW9; obtain ⟨k0, k1, k2, k3, k4, k5⟩ := hW9; first | (go_simp; done) | (go_simp; with_reducible rfl))
              simp only [Act.put, List.getElem_toArray, List.getElem_cons_succ, List.getElem_cons_zero, List.setIfInBounds_toArray, List.set_cons_zero, List.set_cons_succ]
              refine wpAnyH_done (by kernel_rfl) ?_ _
              have hstopm : ¬ BB s cs (m : Int) := by
                rintro ⟨h1, h2⟩
                simp only [Int.toNat_natCast] at h2
                rw [hbit] at h2
                cases h2
              have HSTM := Lib.hid hstopm
              clear hHeld hb9 hstopm hbit
              have hA0 := add_any (N + 1 + 1 + 1 + 1) (N + 1 + 1 + 1 + 1 + 1) (.slice a8 J.length c8) J (xn : Int) (m : Int) W9 (HS.out.below hW9) hJN hlen (hJI.bd hJN (by omega)) (by omega) (by omega)
              have HA0 := Lib.hid hA0
              clear hA0
              gi_wp2_with (refine ⟨trivial, ?_⟩; gi_at_call 50; refine (CallsIn.inRound l (callsIn_wide.2 HA0.out)).mono ?_; rintro e w9 ⟨rfl, hA⟩)
              have hs8 := HS.out.below hW9
              refine ⟨((KeepsOthers.of_below hW9).trans (hA.others hs8)).from _, (KeepV.below hW9 hlW).trans (hA.keepV hs8 _), ?_⟩
              have hbl := hA.below hs8
              obtain ⟨v9, hs9, _, _⟩ := hA
              refine ⟨_, v9, hs9, hJN.add _ _, fun z hz => ?_, fun hpw z => ?_, HBW.out.trans ((hW9.mono (by omega)).trans hbl)⟩
              · rcases (mem_add hJN _ _ z).1 hz with h | h
                · exact hJI z h
                · omega
              · rw [mem_add hJN]
                simp only [List.map_append, List.map_cons, List.map_nil] at hpw ⊢
                rw [HJ.out (List.pairwise_append.1 hpw).1]
                simp only [List.mem_append, List.mem_singleton]
                constructor
                · rintro (⟨y, h1, h2⟩ | h)
                  · exact ⟨y, .inl h1, h2⟩
                  · exact ⟨xn, .inr rfl, (star_iff s cs xn z (by omega)).2 ⟨h.1, fun t h3 h4 => HRUN.out t h3 (by omega)⟩⟩
                · rintro ⟨y, h1 | rfl, h2⟩
                  · exact .inl ⟨y, h1, h2⟩
                  · obtain ⟨h3, h4⟩ := (star_iff s cs xn z (by omega)).1 h2
                    refine .inr ⟨h3, ?_⟩
                    by_cases h5 : z ≤ m
                    · exact h5
                    · exact absurd (h4 m (by omega) (by omega)) HSTM.out
            · refine wpAnyH_take (i := 12) (v := .bool true) rfl (by kernel_rfl) (by kernel_rfl) (by kernel_rfl) (fun _ _ _ h => h) (Or.inl ⟨by rfl, ?hy33⟩) (by assumption) ?rest33
              case hy33 => (intro W9 hW9; obtain ⟨k0, k1, k2, k3, k4, k5⟩ := hW9; first | (go_simp; done) | (go_simp; with_reducible rfl))
              simp only [Act.put, List.getElem_toArray, List.getElem_cons_succ, List.getElem_cons_zero, List.setIfInBounds_toArray, List.set_cons_zero, List.set_cons_succ]
              refine wpAnyH_done (by kernel_rfl) ?_ _
              have HBIT := Lib.hid hbit
              clear hHeld hb9 hbit
              gi_wp2
              go_roundw
              case rel => exact ⟨m + 1, num_succ m, by omega, by omega, fun t h1 h2 => by
                by_cases h3 : t < m
                · exact HRUN.out t h1 h3
                · obtain rfl : t = m := by omega
                  exact ⟨by simpa using hml, by simpa using HBIT.out⟩, hW9⟩
              case measure => simp [intOf]; omega
          · obtain rfl : m = s.size := by omega
            have hdec : decide ((s.size : Int) < s.size) = false := by simp
            have hdec2 : decide (s.size < s.size) = false := by simp
            gi_wp2
            refine region_round 13 rfl (fun W' => W'.cell? ⟨N, 1, none⟩ = some (.string s) ∧ W'.cell? ⟨N + 1, 0, none⟩ = some (.int .u64 (wd cs 0)) ∧ W'.cell? ⟨N + 1, 1, none⟩ = some (.int .u64 (wd cs 1)) ∧ W'.cell? ⟨N + 1, 2, none⟩ = some (.int .u64 (wd cs 2)) ∧ W'.cell? ⟨N + 1, 3, none⟩ = some (.int .u64 (wd cs 3)) ∧ Below W.heap.size W W') mixed (by simp) (fun ⟨_, _, h⟩ => h) ⟨d1, g1, g2, g3, g4, hbi.drew⟩ (fun hHeld => ?_)
            refine wpAnyH_take (i := 0) (v := ?v34) rfl (by kernel_rfl) (by kernel_rfl) (by kernel_rfl) (fun _ _ _ h => h) (Or.inl ⟨by rfl, ?hy34⟩) (by assumption) ?rest34
            case hy34 => (intro W9 hW9; obtain ⟨k0, k1, k2, k3, k4, k5⟩ := hW9; first | (go_simp; done) | (go_simp; with_reducible rfl))
            simp only [Act.put, List.getElem_toArray, List.getElem_cons_succ, List.getElem_cons_zero, List.setIfInBounds_toArray, List.set_cons_zero, List.set_cons_succ]
            refine wpAnyH_take (i := 1) (v := ?v35) rfl (by kernel_rfl) (by kernel_rfl) (by kernel_rfl) (fun _ _ _ h => h) (Or.inl ⟨by rfl, ?hy35⟩) (by assumption) ?rest35
            case hy35 => (intro W9 hW9; obtain ⟨k0, k1, k2, k3, k4, k5⟩ := hW9; first | (go_simp; done) | (go_simp; with_reducible rfl))
            simp only [Act.put, List.getElem_toArray, List.getElem_cons_succ, List.getElem_cons_zero, List.setIfInBounds_toArray, List.set_cons_zero, List.set_cons_succ]
            refine wpAnyH_take (i := 2) (v := ?v36) rfl (by kernel_rfl) (by kernel_rfl) (by kernel_rfl) (fun _ _ _ h => h) (Or.inl ⟨by rfl, ?hy36⟩) (by assumption) ?rest36
            case hy36 => (intro W9 hW9; obtain ⟨k0, k1, k2, k3, k4, k5⟩ := hW9; first | (go_simp; done) | (go_simp; with_reducible rfl))
            simp only [Act.put, List.getElem_toArray, List.getElem_cons_succ, List.getElem_cons_zero, List.setIfInBounds_toArray, List.set_cons_zero, List.set_cons_succ]
            refine wpAnyH_take (i := 3) (v := ?v37) rfl (by kernel_rfl) (by kernel_rfl) (by kernel_rfl) (fun _ _ _ h => h) (Or.inl ⟨by rfl, ?hy37⟩) (by assumption) ?rest37
            case hy37 => (intro W9 hW9; obtain ⟨k0, k1, k2, k3, k4, k5⟩ := hW9; first | (go_simp; done) | (go_simp; with_reducible rfl))
            simp only [Act.put, List.getElem_toArray, List.getElem_cons_succ, List.getElem_cons_zero, List.setIfInBounds_toArray, List.set_cons_zero, List.set_cons_succ]
            refine wpAnyH_take (i := 4) (v := .bool false) rfl (by kernel_rfl) (by kernel_rfl) (by kernel_rfl) (fun _ _ _ h => h) (Or.inl ⟨by rfl, ?hy38⟩) (by assumption) ?rest38
            case hy38 => (intro W9 hW9; obtain ⟨k0, k1, k2, k3, k4, k5⟩ := hW9; first | (go_simp; done) | (go_simp; with_reducible rfl))
            simp only [Act.put, List.getElem_toArray, List.getElem_cons_succ, List.getElem_cons_zero, List.setIfInBounds_toArray, List.set_cons_zero, List.set_cons_succ]
            refine wpAnyH_take (i := 5) (v := .bool false) rfl (by kernel_rfl) (by kernel_rfl) (by kernel_rfl) (fun _ _ _ h => h) (Or.inl ⟨by rfl, ?hy39⟩) (by assumption) ?rest39
            case hy39 => (intro W9 hW9; obtain ⟨k0, k1, k2, k3, k4, k5⟩ := hW9; first | (go_simp; done) | (go_simp; with_reducible rfl))
            simp only [Act.put, List.getElem_toArray, List.getElem_cons_succ, List.getElem_cons_zero, List.setIfInBounds_toArray, List.set_cons_zero, List.set_cons_succ]
            refine wpAnyH_take (i := 6) (v := undef) rfl (by kernel_rfl) (by kernel_rfl) (by kernel_rfl) (fun _ _ _ h => h) (Or.inr ⟨by rfl, rfl⟩) (by assumption) ?_
            simp only [Act.put, List.getElem_toArray, List.getElem_cons_succ, List.getElem_cons_zero, List.setIfInBounds_toArray, List.set_cons_zero, List.set_cons_succ]
            refine wpAnyH_take (i := 7) (v := undef) rfl (by kernel_rfl) (by kernel_rfl) (by kernel_rfl) (fun _ _ _ h => h) (Or.inr ⟨by rfl, rfl⟩) (by assumption) ?_
            simp only [Act.put, List.getElem_toArray, List.getElem_cons_succ, List.getElem_cons_zero, List.setIfInBounds_toArray, List.set_cons_zero, List.set_cons_succ]
            refine wpAnyH_take (i := 8) (v := undef) rfl (by kernel_rfl) (by kernel_rfl) (by kernel_rfl) (fun _ _ _ h => h) (Or.inr ⟨by rfl, rfl⟩) (by assumption) ?_
            simp only [Act.put, List.getElem_toArray, List.getElem_cons_succ, List.getElem_cons_zero, List.setIfInBounds_toArray, List.set_cons_zero, List.set_cons_succ]
            refine wpAnyH_take (i := 9) (v := undef) rfl (by kernel_rfl) (by kernel_rfl) (by kernel_rfl) (fun _ _ _ h => h) (Or.inr ⟨by rfl, rfl⟩) (by assumption) ?_
            simp only [Act.put, List.getElem_toArray, List.getElem_cons_succ, List.getElem_cons_zero, List.setIfInBounds_toArray, List.set_cons_zero, List.set_cons_succ]
            refine wpAnyH_take (i := 10) (v := undef) rfl (by kernel_rfl) (by kernel_rfl) (by kernel_rfl) (fun _ _ _ h => h) (Or.inr ⟨by rfl, rfl⟩) (by assumption) ?_
            simp only [Act.put, List.getElem_toArray, List.getElem_cons_succ, List.getElem_cons_zero, List.setIfInBounds_toArray, List.set_cons_zero, List.set_cons_succ]
            refine wpAnyH_take (i := 11) (v := undef) rfl (by kernel_rfl) (by kernel_rfl) (by kernel_rfl) (fun _ _ _ h => h) (Or.inr ⟨by rfl, rfl⟩) (by assumption) ?_
            simp only [Act.put, List.getElem_toArray, List.getElem_cons_succ, List.getElem_cons_zero, List.setIfInBounds_toArray, List.set_cons_zero, List.set_cons_succ]
            refine wpAnyH_take (i := 12) (v := .bool false) rfl (by kernel_rfl) (by kernel_rfl) (by kernel_rfl) (fun _ _ _ h => h) (Or.inl ⟨by rfl, ?hy40⟩) (by assumption) ?rest40
            case hy40 => (intro W9 hW9; obtain ⟨k0, k1, k2, k3, k4, k5⟩ := hW9; first | (go_simp; done) | (go_simp; with_reducible rfl))
            simp only [Act.put, List.getElem_toArray, List.getElem_cons_succ, List.getElem_cons_zero, List.setIfInBounds_toArray, List.set_cons_zero, List.set_cons_succ]
            refine wpAnyH_done (by kernel_rfl) ?_ _
            have hstopm : ¬ BB s cs ((s.size : Nat) : Int) := by
              rintro ⟨h1, h2⟩
              simp at h1
            obtain ⟨W9, hW9e⟩ : ∃ W9, wr.drew = W9 := ⟨_, rfl⟩
            have hW9 : Below W.heap.size W W9 := by rw [← hW9e]; exact hbi.drew
            rw [hW9e]
            have HSTM := Lib.hid hstopm
            clear hW9e hHeld hstopm
            have hA0 := add_any (N + 1 + 1 + 1 + 1) (N + 1 + 1 + 1 + 1 + 1) (.slice a8 J.length c8) J (xn : Int) (s.size : Int) W9 (HS.out.below hW9) hJN hlen (hJI.bd hJN (by omega)) (by omega) (by omega)
            have HA0 := Lib.hid hA0
            clear hA0
            gi_wp2_with (refine ⟨trivial, ?_⟩; gi_at_call 50; refine (CallsIn.inRound l (callsIn_wide.2 HA0.out)).mono ?_; rintro e w9 ⟨rfl, hA⟩)
            have hs8 := HS.out.below hW9
            refine ⟨((KeepsOthers.of_below hW9).trans (hA.others hs8)).from _, (KeepV.below hW9 hlW).trans (hA.keepV hs8 _), ?_⟩
            have hbl := hA.below hs8
            obtain ⟨v9, hs9, _, _⟩ := hA
            refine ⟨_, v9, hs9, hJN.add _ _, fun z hz => ?_, fun hpw z => ?_, HBW.out.trans ((hW9.mono (by omega)).trans hbl)⟩
            · rcases (mem_add hJN _ _ z).1 hz with h | h
              · exact hJI z h
              · omega
            · rw [mem_add hJN]
              simp only [List.map_append, List.map_cons, List.map_nil] at hpw ⊢
              rw [HJ.out (List.pairwise_append.1 hpw).1]
              simp only [List.mem_append, List.mem_singleton]
              constructor
              · rintro (⟨y, h1, h2⟩ | h)
                · exact ⟨y, .inl h1, h2⟩
                · exact ⟨xn, .inr rfl, (star_iff s cs xn z (by omega)).2 ⟨h.1, fun t h3 h4 => HRUN.out t h3 (by omega)⟩⟩
              · rintro ⟨y, h1 | rfl, h2⟩
                · exact .inl ⟨y, h1, h2⟩
                · obtain ⟨h3, h4⟩ := (star_iff s cs xn z (by omega)).1 h2
                  refine .inr ⟨h3, ?_⟩
                  by_cases h5 : z ≤ s.size
                  · exact h5
                  · exact absurd (h4 s.size (by omega) (by omega)) HSTM.out
  case done =>
    rintro D ys W hD hys ⟨J, v', hs, hJN, hJI, hJ, hbW⟩ hK
    obtain ⟨a9, c9, rfl, _⟩ := hs.2.1.form
    have hcc := hs.cell
    have hr9 := (hbW.block (N + 1 + 1 + 1) (by omega)).trans H36.out
    have hc9 := box_cell hr9
    have hf9 := frozen_row (j := 0) hr9
    gi_wp2
    have hHb := HP.out.new_none (k := N + 1 + 1 + 1) (by omega)
    have hrb := box_set hr9 (.slice a9 J.length c9)
    have hDs : (W.setCell ⟨N + 1 + 1 + 1, 0, none⟩ (.slice a9 J.length c9)).heap[D]? = some (.deferred (some [])) := by
      rw [Below.heap_setCell _ _ _ _ (by show D ≠ N + 1 + 1 + 1; omega)]; exact hK
    have hc10 := box_cell ((World.putObj_heap_other (o := .deferred none) (show N + 1 + 1 + 1 ≠ D by omega)).trans hrb)
    have how : Out (Xm mb) w W := (Out.below HB6.out).comp (Y := fun k => N + 4 ≤ k) ⟨hbW.os, hbW.tape, hbW.output, hbW.size, fun k _ hk => hbW.block k (by have hk : ¬ N + 4 ≤ k := hk; omega)⟩ (fun i hi h => by have h : N + 4 ≤ i := h; omega)
    have hmem : Memos s mb (Loc X N (N + 4)) W := by
      have h6 := (HP.out.loc HB6.out hN (N := N) (B := N + 4) (by omega)).memo
      have h7 : Memos s mb (fun k => Loc X N (N + 4) k ∨ N + 4 ≤ k) w' := by
        refine Memos.below ?_ HB6.out
        exact HP.out.memo.weak fun k hk h => by
          rcases h with (h | h) | h
          · exact h
          · omega
          · omega
      exact (h7.out (Y := fun k => N + 4 ≤ k) ⟨hbW.os, hbW.tape, hbW.output, hbW.size, fun k _ hk => hbW.block k (by have hk : ¬ N + 4 ≤ k := hk; omega)⟩ (fun k _ h => ⟨.inr h, HP.out.new_none (by have h : N + 4 ≤ k := h; omega)⟩)).weak fun k _ h => .inl h
    have hEE : EndsOf s (fun y z => ∃ k, Pw (byteR s cs) k y z) K J := ⟨hJN, hJI, fun x => by
      rw [hJ (by rw [hys]; exact ints_sorted HP.out.nrm), hys]
      simp only [mem_ints]⟩
    have hF := fin_post (R := fun y z => ∃ k, Pw (byteR s cs) k y z) (r0 := N + 1 + 1 + 1) (B := N + 4) HP.out how hN rfl (hs.rn.weak fun k _ h => by
      show k < N + 1 + 1 + 1 + 1 + 1
      rcases h with h | h
      · have := HP.out.lt k h; omega
      · omega) hEE hmem (by omega) (by omega) hHb
    have hF2 := hF.put hDs (by omega) (.deferred none)
    have HF2 := Lib.hid hF2
    clear hF hF2 how hmem hEE hys hHb hrb hJ hJI hJN
    refine ⟨by simp, .inl ⟨_, _, rfl, run_takeDeferred hDs, ?_⟩⟩
    exact ⟨_, by simp [results, Tryd.results61, go_sem, *], HF2.out⟩
  case stop =>
    rintro D c pre W _ _ h _
    exact h.elim
end Go.Proofs.YtooaamepflkgnaaDoor
