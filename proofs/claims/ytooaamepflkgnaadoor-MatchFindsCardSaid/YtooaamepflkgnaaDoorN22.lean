/- Texts that a proof rests on: The contract of oneByte. | The contract of alone. -/
import Derived.Test.YtooaamepflkgnaaDoorN21
set_option maxRecDepth 100000
namespace Go.Proofs.YtooaamepflkgnaaDoor
open Go.RowKit Go.Shelf
attribute [local go_sem] Oper.semAt_some

theorem five_rows (w : World) (x y z t u : Array Value) (e1 e2 e3 e4 e5 : TypeId) (n : Nat) (hn : w.heap.size = n) :
    Below n w (((((w.alloc (.cells x e1)).alloc (.cells y e2)).alloc (.cells z e3)).alloc (.cells t e4)).alloc (.cells u e5)) ∧
    (((((w.alloc (.cells x e1)).alloc (.cells y e2)).alloc (.cells z e3)).alloc (.cells t e4)).alloc (.cells u e5)).heap.size = n + 5 ∧
    (((((w.alloc (.cells x e1)).alloc (.cells y e2)).alloc (.cells z e3)).alloc (.cells t e4)).alloc (.cells u e5)).heap[n]? = some (.cells x e1 (0, 0)) ∧
    (((((w.alloc (.cells x e1)).alloc (.cells y e2)).alloc (.cells z e3)).alloc (.cells t e4)).alloc (.cells u e5)).heap[n + 1]? = some (.cells y e2 (0, 0)) ∧
    (((((w.alloc (.cells x e1)).alloc (.cells y e2)).alloc (.cells z e3)).alloc (.cells t e4)).alloc (.cells u e5)).heap[n + 2]? = some (.cells z e3 (0, 0)) ∧
    (((((w.alloc (.cells x e1)).alloc (.cells y e2)).alloc (.cells z e3)).alloc (.cells t e4)).alloc (.cells u e5)).heap[n + 3]? = some (.cells t e4 (0, 0)) ∧
    (((((w.alloc (.cells x e1)).alloc (.cells y e2)).alloc (.cells z e3)).alloc (.cells t e4)).alloc (.cells u e5)).heap[n + 4]? = some (.cells u e5 (0, 0)) := by
  obtain ⟨h1, h2, h3, h4, h5, h6⟩ := four_rows w x y z t e1 e2 e3 e4 n hn
  have n5 := heap_alloc_new ((((w.alloc (.cells x e1)).alloc (.cells y e2)).alloc (.cells z e3)).alloc (.cells t e4)) (.cells u e5)
  rw [h2] at n5
  refine ⟨h1.alloc (by rw [h2]; omega) _, by simp; omega, ?_, ?_, ?_, ?_, n5⟩
  · rw [heap_alloc_old _ _ (by rw [h2]; omega)]; exact h3
  · rw [heap_alloc_old _ _ (by rw [h2]; omega)]; exact h4
  · rw [heap_alloc_old _ _ (by rw [h2]; omega)]; exact h5
  · rw [heap_alloc_old _ _ (by rw [h2]; omega)]; exact h6
/-- Behind a byte of a set. -/
def byteR (s : ByteArray) (c : BitVec 256) (i j : Int) : Prop := 0 ≤ i ∧ j = i + 1 ∧ ∃ h : i.toNat < s.size, c.getLsbD s[i.toNat].toNat = true
set_option linter.unusedSimpArgs false in
set_option maxHeartbeats 1600000 in
theorem oneByte_any (s : ByteArray) (mb : Nat → Option Pat) (p : Pat) (rep : Bool) (b : Nat) (rv : Value) (K : List (Int × Int))
    (X : Nat → Prop) (w : World) (v : Value) (hp : Pre s mb X v K w) (ht : TreeP w mb p rep b) :
    Calls Tryd.prog 42 #[mV rv s, pV b, .agg #[v]] w (Post s mb X (byteR s p.set) K w) := by
  obtain ⟨a, c, rfl⟩ := hp.rn.len
  rw [TreeP_eq] at ht
  obtain ⟨ks, kn, bs, hpb, hmb, -, -, -⟩ := ht
  have hsz := hp.sz
  obtain ⟨N, hN⟩ : ∃ N, w.heap.size = N := ⟨_, rfl⟩
  obtain ⟨hb5, hsz5, h0, h1, h2, h3, h4⟩ := five_rows w #[rv, .string s] #[pV b] #[.slice a K.length c] #[.slice none 0 0] #[.slice none 0 0] 53 51 61 61 61 N hN
  obtain ⟨w5, hw5⟩ : ∃ w5, w5 = ((((w.alloc (.cells #[rv, .string s] 53)).alloc (.cells #[pV b] 51)).alloc (.cells #[.slice a K.length c] 61)).alloc (.cells #[.slice none 0 0] 61)).alloc (.cells #[.slice none 0 0] 61) := ⟨_, rfl⟩
  rw [← hw5] at hb5 hsz5 h0 h1 h2 h3 h4
  have hb5' : Below w.heap.size w w5 := by rw [hN]; exact hb5
  have hbs := below_one w5 (.cells #[.slice a K.length c] 61)
  obtain ⟨w6, hw6⟩ : ∃ w6, w6 = w5.alloc (.cells #[.slice a K.length c] 61) := ⟨_, rfl⟩
  have hnb : w6.heap[N + 5]? = some (.cells #[.slice a K.length c] 61 (0, 0)) := by rw [hw6, ← hsz5]; exact heap_alloc_new w5 _
  rw [← hw6] at hbs
  have hb6 : Below w.heap.size w w6 := hb5'.trans (hbs.mono hb5'.size)
  have hsz6 : w6.heap.size = N + 6 := by rw [hw6]; simp [hsz5]
  have hs6 : SetB w6 (N + 1 + 1 + 1 + 1) (N + 1 + 1 + 1 + 1 + 1) (.slice none 0 0) [] := ⟨(hbs.block (N + 4) (by omega)).trans h4, RRow.nil _ _, by omega, by omega⟩
  have hfar := hp.rn.far (Out.below (X := Xm mb) hb6) hp.xm
  have hr6 : Rn w6 (Bad (N + 1 + 1 + 1 + 1) (fun _ => False) w6) (.slice a K.length c) K := hfar.weak fun k _ h => by
    rcases h with e | e | e
    · exact .inr (by omega)
    · rw [hs6.ownAt] at e; simp [Value.ownBlock] at e
    · exact e.elim
  have hstop := all_stops 2 (by omega) (N + 5) (N + 1 + 1 + 1 + 1) 91 (fun _ => False) (.slice a K.length c) K w6 hnb (hs6.fit (fun _ h => h.elim)) hr6 (hp.inn.bd hp.nrm (by omega)) hp.nrm (by have := hp.inn.ints hp.nrm (by omega); omega) (hp.inn.small hp.nrm (by omega) (by omega))
  have h06 := (hbs.block N (by omega)).trans h0
  have h16 := (hbs.block (N + 1) (by omega)).trans h1
  have h36 := (hbs.block (N + 3) (by omega)).trans h3
  have hpb6 := (hb6.block b (lt_of_block hpb)).trans hpb
  have HP := Lib.hid hp
  have HW5 := Lib.hid hw5
  have HW6 := Lib.hid hw6
  have HR5 := Lib.hid (hp.rn.below hb5')
  have H06 := Lib.hid h06
  have H16 := Lib.hid h16
  have H36 := Lib.hid h36
  have HPB := Lib.hid hpb6
  have HB6 := Lib.hid hb6
  have HS6 := Lib.hid hs6
  have HST := Lib.hid hstop
  clear hp hw5 hw6 hb5 hb5' hbs h0 h1 h2 h3 h4 h06 h16 h36 hpb6 hb6 hnb hfar hr6 hstop hs6
  refine (callsIn_wide (n := 3)).1 ?_
  refine callsIn_of_wp_marks Tryd.func42 rfl trivial ?_ rfl
  simp only [Tryd.ntmps42, List.size_toArray, List.length_cons, List.length_nil, Nat.reduceAdd, Nat.reduceSub, Array.replicate_succ, Array.replicate_zero, List.push_toArray, List.append_toArray, List.nil_append, List.cons_append]
  gi_wp2_with (refine ⟨trivial, ?_⟩; gi_at_call 31; rw [← HW5.out]; refine (callsIn_wide.2 (all_any (.slice a K.length c) K _ w5 HR5.out)).mono ?_; rw [← HW6.out, hsz5]; rintro e w' ⟨rfl, rfl⟩)
  refine wpIn_rangeFunc_ownH rfl (by omega) (gf := 38) (lb := #[.pointer (some ⟨N + 5, 0, none⟩)]) rfl trivial (enters_of Tryd.func38 (by kernel_rfl) rfl)
    HST.out KeepV.trans (fun W l o o' h1 h2 h3 h4 => keepV_b (n₀ := w'.heap.size) (by omega) W l o o' h1 h2 h3 h4) (Below.refl _ _) (fun _ => rfl)
    (fun pre W => Coll (N + 1 + 1 + 1 + 1) s.size (byteR s p.set) w' (pre.map (·.1)) W) (fun _ _ _ => False)
    (Coll.own (by omega)) (fun _ _ _ _ _ h _ _ => h)
    ⟨[], _, HS6.out, .nil, In.nil _, fun x => by simp [mem], Below.refl _ _⟩
    (fun x a' _ => a' = { tmps := #[mV rv s, pV b, .agg #[.slice a K.length c], pV N, pV (N + 1), pV (N + 1 + 1), pV (N + 1 + 1 + 1), pV (N + 1 + 1 + 1 + 1), .int .i64 x.1, .agg #[.slice a K.length c], .func (.func 38) #[] #[pV (N + 5)], .int .i64 x.1, undef, undef, undef, undef, undef, undef, undef, undef, undef, undef, undef, undef, undef, undef, undef, undef, undef, undef, undef, undef, undef, undef], defers := [] }) (fun x a' _ X Y row hs hg hr => hs)
    ?assign ?body ?done ?stop
  case assign =>
    rintro l pre x W K' hI hK
    gi_wp2
    exact hK _ _ (KeepsFrom.refl _ _) (KeepV.below (Below.refl _ _) (by obtain ⟨_, _, hs, _⟩ := hI; exact hs.lt)) hI rfl
  case body =>
    rintro l pre x a' W hl ⟨r, hr⟩ ⟨J, v', hs, hJN, hJI, hJ, hbW⟩ rfl hlt
    obtain ⟨x, hx⟩ := x
    have hxr := HP.out.inn x hx
    obtain ⟨xn, rfl⟩ : ∃ n : Nat, x = n := ⟨x.toNat, by omega⟩
    dsimp only
    obtain ⟨c0, c1⟩ := pair_cells ((hbW.block N (by omega)).trans H06.out)
    have c2 := box_cell ((hbW.block (N + 1) (by omega)).trans H16.out)
    have hlb := lt_of_block hpb
    have hbW0 := hs.lt
    obtain ⟨g1, g2, g3, g4⟩ := part_set ((hbW.block b (by omega)).trans HPB.out)
    have mixed : Tryd.prog.follows .mixedOrders = true := by kernel_rfl
    have HS := Lib.hid hs
    have HJ := Lib.hid hJ
    have HBW := Lib.hid hbW
    clear hs hJ hbW
    have hlW : (N + 1 + 1 + 1 + 1) < W.heap.size := by have := hbW0; omega
    by_cases hxs : xn < s.size
    · have hdec : decide ((xn : Int) < s.size) = true := by simp; omega
      have hdec2 : decide (xn < s.size) = true := by simp; omega
      have hx0 : (0 : Int) ≤ xn := by omega
      have hx1 : (xn : Int) < s.size := by omega
      gi_wp2
      refine region_round 16 rfl (fun W' => W'.cell? ⟨N, 0, none⟩ = some rv ∧ W'.cell? ⟨N, 1, none⟩ = some (.string s) ∧ W'.cell? ⟨N + 1, 0, none⟩ = some (pV b) ∧ W'.cell? ⟨b, 1, none⟩ = some (.int .u64 (wd p.set 0)) ∧ W'.cell? ⟨b, 1 + 1, none⟩ = some (.int .u64 (wd p.set 1)) ∧ W'.cell? ⟨b, 1 + 2, none⟩ = some (.int .u64 (wd p.set 2)) ∧ W'.cell? ⟨b, 1 + 3, none⟩ = some (.int .u64 (wd p.set 3)) ∧ Below W.heap.size W W') mixed (by simp) (fun ⟨_, _, h⟩ => h) ⟨c0, c1, c2, g1, g2, g3, g4, (Below.refl _ _).drew⟩ (fun hHeld => ?_)
      refine wpAnyH_take (i := 0) (v := ?v1) rfl (by kernel_rfl) (by kernel_rfl) (by kernel_rfl) (fun _ _ _ h => h) (Or.inl ⟨by rfl, ?hy1⟩) (by assumption) ?rest1
      case hy1 => (intro W9 hW9; obtain ⟨k0, k1, k2, k3, k4, k5, k6, k7⟩ := hW9; first | (go_simp; done) | (go_simp; with_reducible rfl))
      simp only [Act.put, List.getElem_toArray, List.getElem_cons_succ, List.getElem_cons_zero, List.setIfInBounds_toArray, List.set_cons_zero, List.set_cons_succ]
      refine wpAnyH_take (i := 1) (v := ?v2) rfl (by kernel_rfl) (by kernel_rfl) (by kernel_rfl) (fun _ _ _ h => h) (Or.inl ⟨by rfl, ?hy2⟩) (by assumption) ?rest2
      case hy2 => (intro W9 hW9; obtain ⟨k0, k1, k2, k3, k4, k5, k6, k7⟩ := hW9; first | (go_simp; done) | (go_simp; with_reducible rfl))
      simp only [Act.put, List.getElem_toArray, List.getElem_cons_succ, List.getElem_cons_zero, List.setIfInBounds_toArray, List.set_cons_zero, List.set_cons_succ]
      refine wpAnyH_take (i := 2) (v := ?v3) rfl (by kernel_rfl) (by kernel_rfl) (by kernel_rfl) (fun _ _ _ h => h) (Or.inl ⟨by rfl, ?hy3⟩) (by assumption) ?rest3
      case hy3 => (intro W9 hW9; obtain ⟨k0, k1, k2, k3, k4, k5, k6, k7⟩ := hW9; first | (go_simp; done) | (go_simp; with_reducible rfl))
      simp only [Act.put, List.getElem_toArray, List.getElem_cons_succ, List.getElem_cons_zero, List.setIfInBounds_toArray, List.set_cons_zero, List.set_cons_succ]
      refine wpAnyH_take (i := 3) (v := ?v4) rfl (by kernel_rfl) (by kernel_rfl) (by kernel_rfl) (fun _ _ _ h => h) (Or.inl ⟨by rfl, ?hy4⟩) (by assumption) ?rest4
      case hy4 => (intro W9 hW9; obtain ⟨k0, k1, k2, k3, k4, k5, k6, k7⟩ := hW9; first | (go_simp; done) | (go_simp; with_reducible rfl))
      simp only [Act.put, List.getElem_toArray, List.getElem_cons_succ, List.getElem_cons_zero, List.setIfInBounds_toArray, List.set_cons_zero, List.set_cons_succ]
      refine wpAnyH_take (i := 4) (v := .bool true) rfl (by kernel_rfl) (by kernel_rfl) (by kernel_rfl) (fun _ _ _ h => h) (Or.inl ⟨by rfl, ?hy5⟩) (by assumption) ?rest5
      case hy5 => (intro W9 hW9; obtain ⟨k0, k1, k2, k3, k4, k5, k6, k7⟩ := hW9; first | (go_simp; done) | (go_simp; with_reducible rfl))
      simp only [Act.put, List.getElem_toArray, List.getElem_cons_succ, List.getElem_cons_zero, List.setIfInBounds_toArray, List.set_cons_zero, List.set_cons_succ]
      refine wpAnyH_take (i := 5) (v := .bool true) rfl (by kernel_rfl) (by kernel_rfl) (by kernel_rfl) (fun _ _ _ h => h) (Or.inl ⟨by rfl, ?hy6⟩) (by assumption) ?rest6
      case hy6 => (intro W9 hW9; obtain ⟨k0, k1, k2, k3, k4, k5, k6, k7⟩ := hW9; first | (go_simp; done) | (go_simp; with_reducible rfl))
      simp only [Act.put, List.getElem_toArray, List.getElem_cons_succ, List.getElem_cons_zero, List.setIfInBounds_toArray, List.set_cons_zero, List.set_cons_succ]
      refine wpAnyH_take (i := 6) (v := ?v7) rfl (by kernel_rfl) (by kernel_rfl) (by kernel_rfl) (fun _ _ _ h => h) (Or.inl ⟨by rfl, ?hy7⟩) (by assumption) ?rest7
      case hy7 => (intro W9 hW9; obtain ⟨k0, k1, k2, k3, k4, k5, k6, k7⟩ := hW9; first | (go_simp; done) | (go_simp; with_reducible rfl))
      simp only [Act.put, List.getElem_toArray, List.getElem_cons_succ, List.getElem_cons_zero, List.setIfInBounds_toArray, List.set_cons_zero, List.set_cons_succ]
      refine wpAnyH_take (i := 7) (v := ?v8) rfl (by kernel_rfl) (by kernel_rfl) (by kernel_rfl) (fun _ _ _ h => h) (Or.inl ⟨by rfl, ?hy8⟩) (by assumption) ?rest8
      case hy8 => (intro W9 hW9; obtain ⟨k0, k1, k2, k3, k4, k5, k6, k7⟩ := hW9; first | (go_simp; done) | (go_simp; with_reducible rfl))
      simp only [Act.put, List.getElem_toArray, List.getElem_cons_succ, List.getElem_cons_zero, List.setIfInBounds_toArray, List.set_cons_zero, List.set_cons_succ]
      refine wpAnyH_take (i := 8) (v := ?v9) rfl (by kernel_rfl) (by kernel_rfl) (by kernel_rfl) (fun _ _ _ h => h) (Or.inl ⟨by rfl, ?hy9⟩) (by assumption) ?rest9
      case hy9 => (intro W9 hW9; obtain ⟨k0, k1, k2, k3, k4, k5, k6, k7⟩ := hW9; first | (go_simp; done) | (go_simp; with_reducible rfl))
      simp only [Act.put, List.getElem_toArray, List.getElem_cons_succ, List.getElem_cons_zero, List.setIfInBounds_toArray, List.set_cons_zero, List.set_cons_succ]
      refine wpAnyH_take (i := 9) (v := ?v10) rfl (by kernel_rfl) (by kernel_rfl) (by kernel_rfl) (fun _ _ _ h => h) (Or.inl ⟨by rfl, ?hy10⟩) (by assumption) ?rest10
      case hy10 => (intro W9 hW9; obtain ⟨k0, k1, k2, k3, k4, k5, k6, k7⟩ := hW9; first | (go_simp; done) | (go_simp; with_reducible rfl))
      simp only [Act.put, List.getElem_toArray, List.getElem_cons_succ, List.getElem_cons_zero, List.setIfInBounds_toArray, List.set_cons_zero, List.set_cons_succ]
      refine wpAnyH_take (i := 10) (v := ?v11) rfl (by kernel_rfl) (by kernel_rfl) (by kernel_rfl) (fun _ _ _ h => h) (Or.inl ⟨by rfl, ?hy11⟩) (by assumption) ?rest11
      case hy11 => (intro W9 hW9; obtain ⟨k0, k1, k2, k3, k4, k5, k6, k7⟩ := hW9; first | (go_simp; done) | (go_simp; with_reducible rfl))
      simp only [Act.put, List.getElem_toArray, List.getElem_cons_succ, List.getElem_cons_zero, List.setIfInBounds_toArray, List.set_cons_zero, List.set_cons_succ]
      refine wpAnyH_take (i := 11) (v := ?v12) rfl (by kernel_rfl) (by kernel_rfl) (by kernel_rfl) (fun _ _ _ h => h) (Or.inl ⟨by rfl, ?hy12⟩) (by assumption) ?rest12
      case hy12 => (intro W9 hW9; obtain ⟨k0, k1, k2, k3, k4, k5, k6, k7⟩ := hW9; first | (go_simp; done) | (go_simp; with_reducible rfl))
      simp only [Act.put, List.getElem_toArray, List.getElem_cons_succ, List.getElem_cons_zero, List.setIfInBounds_toArray, List.set_cons_zero, List.set_cons_succ]
      refine wpAnyH_take (i := 12) (v := ?v13) rfl (by kernel_rfl) (by kernel_rfl) (by kernel_rfl) (fun _ _ _ h => h) (Or.inl ⟨by rfl, ?hy13⟩) (by assumption) ?rest13
      case hy13 => (intro W9 hW9; obtain ⟨k0, k1, k2, k3, k4, k5, k6, k7⟩ := hW9; first | (go_simp; done) | (go_simp; with_reducible rfl))
      simp only [Act.put, List.getElem_toArray, List.getElem_cons_succ, List.getElem_cons_zero, List.setIfInBounds_toArray, List.set_cons_zero, List.set_cons_succ]
      refine wpAnyH_take (i := 13) (v := ?v14) rfl (by kernel_rfl) (by kernel_rfl) (by kernel_rfl) (fun _ _ _ h => h) (Or.inl ⟨by rfl, ?hy14⟩) (by assumption) ?rest14
      case hy14 => (intro W9 hW9; obtain ⟨k0, k1, k2, k3, k4, k5, k6, k7⟩ := hW9; first | (go_simp; done) | (go_simp; with_reducible rfl))
      simp only [Act.put, List.getElem_toArray, List.getElem_cons_succ, List.getElem_cons_zero, List.setIfInBounds_toArray, List.set_cons_zero, List.set_cons_succ]
      refine wpAnyH_ready (rs := [14]) (by kernel_rfl) (by simp) ?_
      refine AllReadyH.cons rfl (fun K hK => ?_) AllReadyH.nil
      go_simp
      refine (has_any p.set s[xn].toNat (by have := s[xn].toNat_lt; omega) _).mono ?_
      rintro e w8 ⟨rfl, hb8⟩
      obtain ⟨k0, k1, k2, k3, k4, k5, k6, k7⟩ := hHeld
      have hW8 : Below W.heap.size W w8 := k7.trans (hb8.mono k7.size)
      refine hK.out _ _ ⟨cell_below hb8 k0, cell_below hb8 k1, cell_below hb8 k2, cell_below hb8 k3, cell_below hb8 k4, cell_below hb8 k5, cell_below hb8 k6, hW8⟩ (fun hHeld => ?_)
      clear hK K k0 k1 k2 k3 k4 k5 k6 k7
      have hs8 := HS.out.below hW8
      have hk8 : KeepV (N + 1 + 1 + 1 + 1) (fun _ => False) W w8 := KeepV.below hW8 hlW
      rcases hbit : p.set.getLsbD s[xn].toNat with _ | _
      · refine wpAnyH_take (i := 15) (v := .bool false) rfl (by kernel_rfl) (by kernel_rfl) (by kernel_rfl) (fun _ _ _ h => h) (Or.inl ⟨by rfl, ?hy15⟩) (by assumption) ?rest15
        case hy15 => (intro W9 hW9; obtain ⟨k0, k1, k2, k3, k4, k5, k6, k7⟩ := hW9; first | (go_simp; done) | (go_simp; with_reducible rfl))
        simp only [Act.put, List.getElem_toArray, List.getElem_cons_succ, List.getElem_cons_zero, List.setIfInBounds_toArray, List.set_cons_zero, List.set_cons_succ]
        refine wpAnyH_done (by kernel_rfl) ?_ _
        gi_wp2
        refine ⟨(KeepsOthers.of_below hW8).from _, hk8, J, v', hs8, hJN, hJI, fun z => ?_, HBW.out.trans (hW8.mono (by omega))⟩
        rw [HJ.out]
        simp only [List.map_append, List.map_cons, List.map_nil, List.mem_append, List.mem_singleton]
        constructor
        · rintro ⟨y, h1, h2⟩; exact ⟨y, .inl h1, h2⟩
        · rintro ⟨y, h1 | rfl, h2⟩
          · exact ⟨y, h1, h2⟩
          · obtain ⟨_, _, _, h3⟩ := h2
            simp only [Int.toNat_natCast] at h3
            rw [hbit] at h3
            cases h3
      · refine wpAnyH_take (i := 15) (v := .bool true) rfl (by kernel_rfl) (by kernel_rfl) (by kernel_rfl) (fun _ _ _ h => h) (Or.inl ⟨by rfl, ?hy16⟩) (by assumption) ?rest16
        case hy16 => (intro W9 hW9; obtain ⟨k0, k1, k2, k3, k4, k5, k6, k7⟩ := hW9; first | (go_simp; done) | (go_simp; with_reducible rfl))
        simp only [Act.put, List.getElem_toArray, List.getElem_cons_succ, List.getElem_cons_zero, List.setIfInBounds_toArray, List.set_cons_zero, List.set_cons_succ]
        refine wpAnyH_done (by kernel_rfl) ?_ _
        have hA0 := add_any (N + 1 + 1 + 1 + 1) (N + 1 + 1 + 1 + 1 + 1) v' J ((xn : Int) + 1) ((xn : Int) + 1) w8 hs8 hJN (hJI.small hJN (by omega) (by omega)) (hJI.bd hJN (by omega)) (by omega) (by omega)
        have HA0 := Lib.hid hA0
        clear hA0 hHeld hb8
        gi_wp2_with (refine ⟨trivial, ?_⟩; gi_at_call 50; refine (CallsIn.inRound l (callsIn_wide.2 HA0.out)).mono ?_; rintro e w9 ⟨rfl, hA⟩)
        refine ⟨((KeepsOthers.of_below hW8).trans (hA.others hs8)).from _, hk8.trans (hA.keepV hs8 _), ?_⟩
        have hbl := hA.below hs8
        obtain ⟨v9, hs9, _, _⟩ := hA
        refine ⟨_, v9, hs9, hJN.add _ _, fun z hz => ?_, fun z => ?_, HBW.out.trans ((hW8.mono (by omega)).trans hbl)⟩
        · rcases (mem_add hJN _ _ z).1 hz with h | h
          · exact hJI z h
          · omega
        · rw [mem_add hJN, HJ.out]
          simp only [List.map_append, List.map_cons, List.map_nil, List.mem_append, List.mem_singleton]
          constructor
          · rintro (⟨y, h1, h2⟩ | h)
            · exact ⟨y, .inl h1, h2⟩
            · exact ⟨xn, .inr rfl, by omega, by omega, by simpa using hxs, by simpa using hbit⟩
          · rintro ⟨y, h1 | rfl, h2⟩
            · exact .inl ⟨y, h1, h2⟩
            · obtain ⟨_, h3, _⟩ := h2
              exact .inr (by omega)
    · have hdec : decide ((xn : Int) < s.size) = false := by simp; omega
      have hdec2 : decide (xn < s.size) = false := by simp; omega
      gi_wp2
      refine region_round 16 rfl (fun W' => W'.cell? ⟨N, 0, none⟩ = some rv ∧ W'.cell? ⟨N, 1, none⟩ = some (.string s) ∧ W'.cell? ⟨N + 1, 0, none⟩ = some (pV b) ∧ W'.cell? ⟨b, 1, none⟩ = some (.int .u64 (wd p.set 0)) ∧ W'.cell? ⟨b, 1 + 1, none⟩ = some (.int .u64 (wd p.set 1)) ∧ W'.cell? ⟨b, 1 + 2, none⟩ = some (.int .u64 (wd p.set 2)) ∧ W'.cell? ⟨b, 1 + 3, none⟩ = some (.int .u64 (wd p.set 3)) ∧ Below W.heap.size W W') mixed (by simp) (fun ⟨_, _, h⟩ => h) ⟨c0, c1, c2, g1, g2, g3, g4, (Below.refl _ _).drew⟩ (fun hHeld => ?_)
      refine wpAnyH_take (i := 0) (v := ?v17) rfl (by kernel_rfl) (by kernel_rfl) (by kernel_rfl) (fun _ _ _ h => h) (Or.inl ⟨by rfl, ?hy17⟩) (by assumption) ?rest17
      case hy17 => (intro W9 hW9; obtain ⟨k0, k1, k2, k3, k4, k5, k6, k7⟩ := hW9; first | (go_simp; done) | (go_simp; with_reducible rfl))
      simp only [Act.put, List.getElem_toArray, List.getElem_cons_succ, List.getElem_cons_zero, List.setIfInBounds_toArray, List.set_cons_zero, List.set_cons_succ]
      refine wpAnyH_take (i := 1) (v := ?v18) rfl (by kernel_rfl) (by kernel_rfl) (by kernel_rfl) (fun _ _ _ h => h) (Or.inl ⟨by rfl, ?hy18⟩) (by assumption) ?rest18
      case hy18 => (intro W9 hW9; obtain ⟨k0, k1, k2, k3, k4, k5, k6, k7⟩ := hW9; first | (go_simp; done) | (go_simp; with_reducible rfl))
      simp only [Act.put, List.getElem_toArray, List.getElem_cons_succ, List.getElem_cons_zero, List.setIfInBounds_toArray, List.set_cons_zero, List.set_cons_succ]
      refine wpAnyH_take (i := 2) (v := ?v19) rfl (by kernel_rfl) (by kernel_rfl) (by kernel_rfl) (fun _ _ _ h => h) (Or.inl ⟨by rfl, ?hy19⟩) (by assumption) ?rest19
      case hy19 => (intro W9 hW9; obtain ⟨k0, k1, k2, k3, k4, k5, k6, k7⟩ := hW9; first | (go_simp; done) | (go_simp; with_reducible rfl))
      simp only [Act.put, List.getElem_toArray, List.getElem_cons_succ, List.getElem_cons_zero, List.setIfInBounds_toArray, List.set_cons_zero, List.set_cons_succ]
      refine wpAnyH_take (i := 3) (v := ?v20) rfl (by kernel_rfl) (by kernel_rfl) (by kernel_rfl) (fun _ _ _ h => h) (Or.inl ⟨by rfl, ?hy20⟩) (by assumption) ?rest20
      case hy20 => (intro W9 hW9; obtain ⟨k0, k1, k2, k3, k4, k5, k6, k7⟩ := hW9; first | (go_simp; done) | (go_simp; with_reducible rfl))
      simp only [Act.put, List.getElem_toArray, List.getElem_cons_succ, List.getElem_cons_zero, List.setIfInBounds_toArray, List.set_cons_zero, List.set_cons_succ]
      refine wpAnyH_take (i := 4) (v := .bool false) rfl (by kernel_rfl) (by kernel_rfl) (by kernel_rfl) (fun _ _ _ h => h) (Or.inl ⟨by rfl, ?hy21⟩) (by assumption) ?rest21
      case hy21 => (intro W9 hW9; obtain ⟨k0, k1, k2, k3, k4, k5, k6, k7⟩ := hW9; first | (go_simp; done) | (go_simp; with_reducible rfl))
      simp only [Act.put, List.getElem_toArray, List.getElem_cons_succ, List.getElem_cons_zero, List.setIfInBounds_toArray, List.set_cons_zero, List.set_cons_succ]
      refine wpAnyH_take (i := 5) (v := .bool false) rfl (by kernel_rfl) (by kernel_rfl) (by kernel_rfl) (fun _ _ _ h => h) (Or.inl ⟨by rfl, ?hy22⟩) (by assumption) ?rest22
      case hy22 => (intro W9 hW9; obtain ⟨k0, k1, k2, k3, k4, k5, k6, k7⟩ := hW9; first | (go_simp; done) | (go_simp; with_reducible rfl))
      simp only [Act.put, List.getElem_toArray, List.getElem_cons_succ, List.getElem_cons_zero, List.setIfInBounds_toArray, List.set_cons_zero, List.set_cons_succ]
      refine wpAnyH_take (i := 6) (v := undef) rfl (by kernel_rfl) (by kernel_rfl) (by kernel_rfl) (fun _ _ _ h => h) (Or.inr ⟨by rfl, rfl⟩) (by assumption) ?_
      simp only [Act.put, List.getElem_toArray, List.getElem_cons_succ, List.getElem_cons_zero, List.setIfInBounds_toArray, List.set_cons_zero, List.set_cons_succ]
      refine wpAnyH_take (i := 7) (v := undef) rfl (by kernel_rfl) (by kernel_rfl) (by kernel_rfl) (fun _ _ _ h => h) (Or.inr ⟨by rfl, rfl⟩) (by assumption) ?_
      simp only [Act.put, List.getElem_toArray, List.getElem_cons_succ, List.getElem_cons_zero, List.setIfInBounds_toArray, List.set_cons_zero, List.set_cons_succ]
      refine wpAnyH_take (i := 8) (v := undef) rfl (by kernel_rfl) (by kernel_rfl) (by kernel_rfl) (fun _ _ _ h => h) (Or.inr ⟨by rfl, rfl⟩) (by assumption) ?_
      simp only [Act.put, List.getElem_toArray, List.getElem_cons_succ, List.getElem_cons_zero, List.setIfInBounds_toArray, List.set_cons_zero, List.set_cons_succ]
      refine wpAnyH_take (i := 9) (v := undef) rfl (by kernel_rfl) (by kernel_rfl) (by kernel_rfl) (fun _ _ _ h => h) (Or.inr ⟨by rfl, rfl⟩) (by assumption) ?_
      simp only [Act.put, List.getElem_toArray, List.getElem_cons_succ, List.getElem_cons_zero, List.setIfInBounds_toArray, List.set_cons_zero, List.set_cons_succ]
      refine wpAnyH_take (i := 10) (v := undef) rfl (by kernel_rfl) (by kernel_rfl) (by kernel_rfl) (fun _ _ _ h => h) (Or.inr ⟨by rfl, rfl⟩) (by assumption) ?_
      simp only [Act.put, List.getElem_toArray, List.getElem_cons_succ, List.getElem_cons_zero, List.setIfInBounds_toArray, List.set_cons_zero, List.set_cons_succ]
      refine wpAnyH_take (i := 11) (v := undef) rfl (by kernel_rfl) (by kernel_rfl) (by kernel_rfl) (fun _ _ _ h => h) (Or.inr ⟨by rfl, rfl⟩) (by assumption) ?_
      simp only [Act.put, List.getElem_toArray, List.getElem_cons_succ, List.getElem_cons_zero, List.setIfInBounds_toArray, List.set_cons_zero, List.set_cons_succ]
      refine wpAnyH_take (i := 12) (v := undef) rfl (by kernel_rfl) (by kernel_rfl) (by kernel_rfl) (fun _ _ _ h => h) (Or.inr ⟨by rfl, rfl⟩) (by assumption) ?_
      simp only [Act.put, List.getElem_toArray, List.getElem_cons_succ, List.getElem_cons_zero, List.setIfInBounds_toArray, List.set_cons_zero, List.set_cons_succ]
      refine wpAnyH_take (i := 13) (v := undef) rfl (by kernel_rfl) (by kernel_rfl) (by kernel_rfl) (fun _ _ _ h => h) (Or.inr ⟨by rfl, rfl⟩) (by assumption) ?_
      simp only [Act.put, List.getElem_toArray, List.getElem_cons_succ, List.getElem_cons_zero, List.setIfInBounds_toArray, List.set_cons_zero, List.set_cons_succ]
      refine wpAnyH_take (i := 14) (v := undef) rfl (by kernel_rfl) (by kernel_rfl) (by kernel_rfl) (fun _ _ _ h => h) (Or.inr ⟨by rfl, rfl⟩) (by assumption) ?_
      simp only [Act.put, List.getElem_toArray, List.getElem_cons_succ, List.getElem_cons_zero, List.setIfInBounds_toArray, List.set_cons_zero, List.set_cons_succ]
      refine wpAnyH_take (i := 15) (v := .bool false) rfl (by kernel_rfl) (by kernel_rfl) (by kernel_rfl) (fun _ _ _ h => h) (Or.inl ⟨by rfl, ?hy23⟩) (by assumption) ?rest23
      case hy23 => (intro W9 hW9; obtain ⟨k0, k1, k2, k3, k4, k5, k6, k7⟩ := hW9; first | (go_simp; done) | (go_simp; with_reducible rfl))
      simp only [Act.put, List.getElem_toArray, List.getElem_cons_succ, List.getElem_cons_zero, List.setIfInBounds_toArray, List.set_cons_zero, List.set_cons_succ]
      refine wpAnyH_done (by kernel_rfl) ?_ _
      gi_wp2
      refine ⟨(KeepsOthers.drew W).from _, KeepV.below ((Below.refl _ _).drew) hlW, J, v', HS.out, hJN, hJI, fun z => ?_, HBW.out.drew⟩
      rw [HJ.out]
      simp only [List.map_append, List.map_cons, List.map_nil, List.mem_append, List.mem_singleton]
      constructor
      · rintro ⟨y, h1, h2⟩; exact ⟨y, .inl h1, h2⟩
      · rintro ⟨y, h1 | rfl, h2⟩
        · exact ⟨y, h1, h2⟩
        · obtain ⟨_, _, h3, _⟩ := h2
          simp only [Int.toNat_natCast] at h3
          exact absurd h3 hxs
  case done =>
    rintro D ys W hD hys ⟨J, v', hs, hJN, hJI, hJ, hbW⟩ hK
    obtain ⟨a9, c9, rfl, _⟩ := hs.2.1.form
    have hcc := hs.cell
    have hr9 := (hbW.block (N + 1 + 1 + 1) (by omega)).trans H36.out
    have hc9 := box_cell hr9
    have hf9 := frozen_row (j := 0) hr9
    gi_wp2
    have hHb := HP.out.new_none (k := N + 1 + 1 + 1) (by omega)
    have hrb := box_set hr9 (.slice a9 J.length c9)
    have hDs : (W.setCell ⟨N + 1 + 1 + 1, 0, none⟩ (.slice a9 J.length c9)).heap[D]? = some (.deferred (some [])) := by
      rw [Below.heap_setCell _ _ _ _ (by show D ≠ N + 1 + 1 + 1; omega)]; exact hK
    have hc10 := box_cell ((World.putObj_heap_other (o := .deferred none) (show N + 1 + 1 + 1 ≠ D by omega)).trans hrb)
    have how : Out (Xm mb) w W := (Out.below HB6.out).comp (Y := fun k => N + 4 ≤ k) ⟨hbW.os, hbW.tape, hbW.output, hbW.size, fun k _ hk => hbW.block k (by have hk : ¬ N + 4 ≤ k := hk; omega)⟩ (fun i hi h => by have h : N + 4 ≤ i := h; omega)
    have hmem : Memos s mb (Loc X N (N + 4)) W := by
      have h6 := (HP.out.loc HB6.out hN (N := N) (B := N + 4) (by omega)).memo
      have h7 : Memos s mb (fun k => Loc X N (N + 4) k ∨ N + 4 ≤ k) w' := by
        refine Memos.below ?_ HB6.out
        exact HP.out.memo.weak fun k hk h => by
          rcases h with (h | h) | h
          · exact h
          · omega
          · omega
      exact (h7.out (Y := fun k => N + 4 ≤ k) ⟨hbW.os, hbW.tape, hbW.output, hbW.size, fun k _ hk => hbW.block k (by have hk : ¬ N + 4 ≤ k := hk; omega)⟩ (fun k _ h => ⟨.inr h, HP.out.new_none (by have h : N + 4 ≤ k := h; omega)⟩)).weak fun k _ h => .inl h
    have hEE : EndsOf s (byteR s p.set) K J := ⟨hJN, hJI, fun x => by
      rw [hJ, hys]
      simp only [mem_ints]⟩
    have hF := fin_post (R := byteR s p.set) (r0 := N + 1 + 1 + 1) (B := N + 4) HP.out how hN rfl (hs.rn.weak fun k _ h => by
      show k < N + 1 + 1 + 1 + 1 + 1
      rcases h with h | h
      · have := HP.out.lt k h; omega
      · omega) hEE hmem (by omega) (by omega) hHb
    have hF2 := hF.put hDs (by omega) (.deferred none)
    have HF2 := Lib.hid hF2
    clear hF hF2 how hmem hEE hys hHb hrb hJ hJI hJN
    refine ⟨by simp, .inl ⟨_, _, rfl, run_takeDeferred hDs, ?_⟩⟩
    exact ⟨_, by simp [results, Tryd.results42, go_sem, *], HF2.out⟩
  case stop =>
    rintro D c pre W _ _ h _
    exact h.elim
end Go.Proofs.YtooaamepflkgnaaDoor
set_option maxRecDepth 100000
namespace Go.Proofs.YtooaamepflkgnaaDoor
open Go.RowKit Go.Shelf
attribute [local go_sem] Oper.semAt_some

/-- Rows of cells stay where all cells stay. -/
theorem Rn.cells {w w' : World} {X : Nat → Prop} {v : Value} {L : List (Int × Int)} (h : Rn w X v L) (hk : ∀ (k : Nat) (o : Obj), w.heap[k]? = some o → o.isCells = true → w'.heap[k]? = some o) : Rn w' X v L := by
  rcases h with h | ⟨b, of, c, e, hc, hn, hr⟩
  · exact .inl h
  · refine .inr ⟨b, of, c, e, hc, hn, fun i hi => ?_⟩
    obtain ⟨ob, h1, h2⟩ := cell_obj (hr i hi).1
    have h3 := (hk b ob h1 h2).trans h1.symm
    exact ⟨(World.cell?_of_block (a := ⟨b, of + i * 2, none⟩) h3).trans (hr i hi).1, (World.cell?_of_block (a := ⟨b, of + i * 2 + 1, none⟩) h3).trans (hr i hi).2⟩
theorem grown_cells {w w' : World} {row : Option Nat} (hg : w.grownBy w' row) (hr : ∀ r, row = some r → ∃ o : Obj, w.heap[r]? = some o ∧ o.isCells = false) {k : Nat} {o : Obj} (hk : w.heap[k]? = some o) (ho : o.isCells = true) : w'.heap[k]? = some o := by
  refine (hg.block k (lt_of_block hk) fun e => ?_).trans hk
  obtain ⟨o', h1, h2⟩ := hr k e.symm
  rw [hk] at h1; cases h1; rw [ho] at h2; cases h2
theorem Var.row {s : ByteArray} {mb : Nat → Option Pat} {X : Nat → Prop} {bp B : Nat} {J : List (Int × Int)} {w w' : World} {row : Option Nat} (h : Var s mb X bp J w) (hg : w.grownBy w' row) (hr : ∀ r, row = some r → B ≤ r ∧ ∃ o : Obj, w.heap[r]? = some o ∧ o.isCells = false) (hB : ∀ k, Xm mb k → k < B) : Var s mb X bp J w' := by
  have hsz := h.size
  obtain ⟨v, hs⟩ := h.set
  have hs' := hs.row hg (fun r e => (hr r e).2)
  have e : ownAt w' bp = ownAt w bp := by rw [hs.ownAt, hs'.ownAt]
  refine ⟨⟨v, hs'⟩, h.nrm, h.inn, h.xm, h.lt, ?_⟩
  refine h.memo.map (fun k hk => hg.block k (h.memo.lt hk) fun e => ?_) fun v L hr' => ?_
  · have := (hr k e.symm).1; have := hB k hk; omega
  · exact (Rn.cells hr' fun k o h1 h2 => grown_cells hg (fun r e => (hr r e).2) h1 h2).weak fun k _ hk => by unfold Bad at hk ⊢; rw [e] at hk; exact hk
/-- A call that only fills maps keeps what a round keeps. -/
theorem KeepV.out {s : ByteArray} {mb : Nat → Option Pat} {X Y : Nat → Prop} {bp : Nat} {J : List (Int × Int)} {w w' : World} (h : Var s mb X bp J w) (ho : Out (Xm mb) w w') (hm : Memos s mb (Bad bp X w) w') : KeepV bp Y w w' := by
  obtain ⟨hv, _⟩ := h.call ho hm
  obtain ⟨v, hs⟩ := h.set
  have hs' : SetB w' bp (bp + 1) v J := hs.out ho fun k hk hx => hx (hs.not_map h.memo hk)
  have e : ownAt w' bp = ownAt w bp := by rw [hs.ownAt, hs'.ownAt]
  exact ⟨ho.os, ho.tape, ho.output, ho.size, fun k o hk hc _ => (ho.block k (lt_of_block hk) fun hx => h.memo.not_cells hk hc hx).trans hk, fun g hg => .inl (by rw [← e]; exact hg), fun hf g hg => by rw [e] at hg; have := hf g hg; have := ho.size; omega⟩
theorem KeepsFrom.outM {mb : Nat → Option Pat} {w w' : World} {B : Nat} (ho : Out (Xm mb) w w') (hB : ∀ k, Xm mb k → k < B) : KeepsFrom B w w' :=
  ⟨ho.size, fun k _ hk h _ => (ho.block k (lt_of_block h) fun hx => by have := hB k hx; omega).trans h⟩
/-- A join behind a call, in a round. -/
theorem Var.join_round {s : ByteArray} {mb : Nat → Option Pat} {X Y : Nat → Prop} {bp B : Nat} {J L : List (Int × Int)} {u : Value} {wr w3 : World} (h : Var s mb X bp J wr) (ho : Out (Xm mb) wr w3) (hm : Memos s mb (Bad bp X wr) w3) (hr : Rn w3 (Bad bp X wr) u L) (hN : Nrm L) (hI : In s.size L) (hsz : s.size ≤ 90) (hB : ∀ k, Xm mb k → k < B) :
    Calls Tryd.prog 58 #[.pointer (some ⟨bp, 0, none⟩), .agg #[u]] w3 fun e w' => e = .returned (.tuple #[]) ∧ Var s mb X bp (joinR J L) w' ∧ Out (fun k => Xm mb k ∨ bp ≤ k) wr w' ∧ KeepV bp Y wr w' ∧ KeepsFrom B wr w' := by
  have hk0 : KeepV bp Y wr w3 := KeepV.out h ho hm
  obtain ⟨hv, hBd⟩ := h.call ho hm
  obtain ⟨v, hs⟩ := hv.set
  refine (join_any bp (bp + 1) v u J L s.size w3 hs hv.nrm hv.inn hN hI (by omega) (by omega) (hr.weak fun k _ hk => ?_)).mono ?_
  · rw [← hBd]
    rcases hk with e | e
    · exact .inl e
    · exact .inr (.inl (by rw [hs.ownAt]; exact e))
  · rintro e w' ⟨rfl, ha⟩
    obtain ⟨h1, h2⟩ := hv.added hs ha (hv.nrm.join L) (hv.inn.join hv.nrm hI)
    exact ⟨rfl, h1, (ho.mono fun _ _ h => .inl h).comp h2 (fun k _ h => .inr (by omega)), hk0.trans (ha.keepV hs Y), (KeepsFrom.outM ho hB).trans ((ha.others hs).from _)⟩
/-- What a loop over a set's numbers has collected, while maps are filled. -/
def CollM (s : ByteArray) (mb : Nat → Option Pat) (X : Nat → Prop) (bp : Nat) (f : Int → Int → Prop) (w0 : World) (pre : List Int) (W : World) : Prop := ∃ J, Var s mb X bp J W ∧ (∀ x, mem J x ↔ ∃ y ∈ pre, f y x) ∧ Out (fun k => Xm mb k ∨ bp ≤ k) w0 W
theorem CollM.own {K : List (Int × Int)} {s : ByteArray} {mb : Nat → Option Pat} {X : Nat → Prop} {bp : Nat} {f : Int → Int → Prop} {w0 : World} {B : Nat} (hB : ∀ k, Xm mb k → k < B) (hbB : bp < B) : OwnFrom B (fun (pre : List (Of K)) W => CollM s mb X bp f w0 (pre.map (·.1)) W) := by
  rintro pre W W' row ⟨J, hv, h1, h2⟩ hg hr
  exact ⟨J, hv.row hg hr hB, h1, h2.comp (Y := fun k => row = some k) ⟨hg.os, hg.tape, hg.output, hg.size, fun k hk hn => hg.block k hk fun e => hn e.symm⟩ fun k _ e => .inr (by have := (hr k e).1; omega)⟩
set_option linter.unusedSimpArgs false in
set_option maxHeartbeats 4000000 in
theorem alone_any (s : ByteArray) (mb : Nat → Option Pat) (p : Pat) (rep : Bool) (b : Nat) (rv : Value) (K : List (Int × Int)) (F : Nat)
    (hO : ∀ (X : Nat → Prop) (w : World) (v : Value) (i : Int), Pre s mb X v [(i, i)] w → TreeP w mb p rep b → Calls Tryd.prog 45 #[pV b, .agg #[v], .func (.func F) #[mV rv s] #[]] w (Post s mb X (p.M s) [(i, i)] w))
    (X : Nat → Prop) (w : World) (v : Value) (hp : Pre s mb X v K w) (ht : TreeP w mb p rep b) :
    Calls Tryd.prog 47 #[mV rv s, pV b, .agg #[v], .func (.func F) #[mV rv s] #[]] w (Post s mb X (p.M s) K w) := by
  obtain ⟨a, c, rfl⟩ := hp.rn.len
  have hsz := hp.sz
  obtain ⟨fv, hfv⟩ : ∃ fv, fv = Value.func (.func F) #[mV rv s] #[] := ⟨_, rfl⟩
  rw [← hfv]
  obtain ⟨N, hN⟩ : ∃ N, w.heap.size = N := ⟨_, rfl⟩
  obtain ⟨hb5, hsz5, h0, h1, h2, h3, h4⟩ := five_rows w #[rv, .string s] #[pV b] #[.slice a K.length c] #[fv] #[.slice none 0 0] 53 51 61 71 61 N hN
  obtain ⟨w5, hw5⟩ : ∃ w5, w5 = ((((w.alloc (.cells #[rv, .string s] 53)).alloc (.cells #[pV b] 51)).alloc (.cells #[.slice a K.length c] 61)).alloc (.cells #[fv] 71)).alloc (.cells #[.slice none 0 0] 61) := ⟨_, rfl⟩
  rw [← hw5] at hb5 hsz5 h0 h1 h2 h3 h4
  have hb5' : Below w.heap.size w w5 := by rw [hN]; exact hb5
  have hp5 := hp.loc hb5' (N := N) (B := N + 1 + 1 + 1 + 1 + 1) hN (by omega)
  have hv6 := Var.new (bp := N + 1 + 1 + 1 + 1 + 1) (t := .slice none 0 0) hp5.memo hp5.xm (fun k hk => by have := hp5.lt k hk; omega) (by omega) rfl
  have hb6 := below_one w5 (.cells #[.slice none 0 0] 61)
  obtain ⟨w6, hw6⟩ : ∃ w6, w6 = w5.alloc (.cells #[.slice none 0 0] 61) := ⟨_, rfl⟩
  have hsz6 : w6.heap.size = N + 6 := by rw [hw6]; simp [hsz5]
  rw [← hw6] at hb6 hv6
  have hb7 := below_one w6 (.cells #[.slice a K.length c] 61)
  obtain ⟨w7, hw7⟩ : ∃ w7, w7 = w6.alloc (.cells #[.slice a K.length c] 61) := ⟨_, rfl⟩
  have hnb : w7.heap[N + 6]? = some (.cells #[.slice a K.length c] 61 (0, 0)) := by rw [hw7, ← hsz6]; exact heap_alloc_new w6 _
  have hsz7 : w7.heap.size = N + 7 := by rw [hw7]; simp [hsz6]
  rw [← hw7] at hb7
  have hv7 := hv6.below hb7
  have hb06 : Below w.heap.size w w6 := hb5'.trans (hb6.mono hb5'.size)
  have hb07 : Below w.heap.size w w7 := hb06.trans (hb7.mono hb06.size)
  have hfar := hp.rn.far (Out.below (X := Xm mb) hb07) hp.xm
  obtain ⟨v7, hs7⟩ := hv7.set
  have hr7 : Rn w7 (Bad (N + 1 + 1 + 1 + 1 + 1) (fun _ => False) w7) (.slice a K.length c) K := hfar.weak fun k _ h => by
    rcases h with e | e | e
    · exact .inr (by omega)
    · rw [hs7.ownAt] at e; have := (hs7.own e).1; exact .inr (by omega)
    · exact e.elim
  have hstop := all_stops 2 (by omega) (N + 6) (N + 1 + 1 + 1 + 1 + 1) 91 (fun _ => False) (.slice a K.length c) K w7 hnb (hs7.fit (fun _ h => h.elim)) hr7 (hp.inn.bd hp.nrm (by omega)) hp.nrm (by have := hp.inn.ints hp.nrm (by omega); omega) (hp.inn.small hp.nrm (by omega) (by omega))
  have hb57 : Below w5.heap.size w5 w7 := hb6.trans (hb7.mono hb6.size)
  have h07 := (hb57.block N (by omega)).trans h0
  have h17 := (hb57.block (N + 1) (by omega)).trans h1
  have h37 := (hb57.block (N + 3) (by omega)).trans h3
  have h47 := (hb57.block (N + 4) (by omega)).trans h4
  have hxlt : ∀ k, Xm mb k → k < N := fun k hk => by have := hp.memo.lt hk; omega
  have HP := Lib.hid hp
  have HT := Lib.hid ht
  have HO := Lib.hid hO
  have HFV := Lib.hid hfv
  have HW5 := Lib.hid hw5
  have HW6 := Lib.hid hw6
  have HW7 := Lib.hid hw7
  have HR6 := Lib.hid (hp.rn.below hb06)
  have H17 := Lib.hid h17
  have H37 := Lib.hid h37
  have H47 := Lib.hid h47
  have HB7 := Lib.hid hb07
  have HV7 := Lib.hid hv7
  have HST := Lib.hid hstop
  have HXL := Lib.hid hxlt
  clear hp ht hO hfv hw5 hw6 hw7 hb5 hb5' hb6 hb7 hb57 h0 h1 h2 h3 h4 h07 h17 h37 h47 hb06 hb07 hnb hfar hr7 hstop hv6 hv7 hs7 hp5 hxlt
  refine (callsIn_wide (n := 3)).1 ?_
  refine callsIn_of_wp_marks Tryd.func47 rfl trivial ?_ rfl
  simp only [Tryd.ntmps47, List.size_toArray, List.length_cons, List.length_nil, Nat.reduceAdd, Nat.reduceSub, Array.replicate_succ, Array.replicate_zero, List.push_toArray, List.append_toArray, List.nil_append, List.cons_append]
  gi_wp2_with (refine ⟨trivial, ?_⟩; gi_at_call 31; rw [← HW5.out, ← HW6.out]; refine (callsIn_wide.2 (all_any (.slice a K.length c) K _ w6 HR6.out)).mono ?_; rw [← HW7.out, hsz6]; rintro e w' ⟨rfl, rfl⟩)
  refine wpIn_rangeFunc_ownH rfl (by omega) (gf := 38) (lb := #[.pointer (some ⟨N + 6, 0, none⟩)]) rfl trivial (enters_of Tryd.func38 (by kernel_rfl) rfl)
    HST.out KeepV.trans (fun W l o o' h1 h2 h3 h4 => keepV_b (n₀ := w'.heap.size) (by omega) W l o o' h1 h2 h3 h4) (Below.refl _ _) (fun _ => rfl)
    (fun pre W => CollM s mb (Loc X N (N + 1 + 1 + 1 + 1 + 1)) (N + 1 + 1 + 1 + 1 + 1) (p.M s) w' (pre.map (·.1)) W) (fun _ _ _ => False)
    (CollM.own (fun k hk => by have := HXL.out k hk; omega) (by omega)) (fun _ _ _ _ _ h _ _ => h)
    ⟨[], HV7.out, fun x => by simp [mem], Out.refl _ _⟩
    (fun x a' _ => a' = { tmps := #[mV rv s, pV b, .agg #[.slice a K.length c], fv, pV N, pV (N + 1), pV (N + 1 + 1), pV (N + 1 + 1 + 1), pV (N + 1 + 1 + 1 + 1), pV (N + 1 + 1 + 1 + 1 + 1), .int .i64 x.1, .agg #[.slice a K.length c], .func (.func 38) #[] #[pV (N + 6)], .int .i64 x.1, undef, undef, undef, undef, undef, undef, undef, undef], defers := [] }) (fun x a' _ X Y row hs hg hr => hs)
    ?assign ?body ?done ?stop
  case assign =>
    rintro l pre x W K' hI hK
    gi_wp2
    exact hK _ _ (KeepsFrom.refl _ _) (KeepV.below (Below.refl _ _) (by obtain ⟨_, hv, _⟩ := hI; exact hv.size)) hI rfl
  case body =>
    rintro l pre x a' W hl ⟨r, hr⟩ ⟨J, hv, hJ, hoW⟩ rfl hlt
    obtain ⟨x, hx⟩ := x
    have hxr := HP.out.inn x hx
    dsimp only
    have how : Out (Xm mb) w W := frame_out HB7.out hoW (fun k e => by omega)
    have c1 := box_cell ((hoW.block (N + 1) (by omega) (by rintro (h | h); have := HXL.out _ h; omega; omega)).trans H17.out)
    have c3 := box_cell ((hoW.block (N + 3) (by omega) (by rintro (h | h); have := HXL.out _ h; omega; omega)).trans H37.out)
    have hsW := hv.size
    have mixed : Tryd.prog.follows .mixedOrders = true := by kernel_rfl
    have HJ := Lib.hid hJ
    have HV := Lib.hid hv
    have HOW := Lib.hid hoW
    have HOM := Lib.hid how
    clear hJ hv hoW how
    gi_wp2
    refine region_round 7 rfl (fun W' => W'.cell? ⟨N + 1, 0, none⟩ = some (pV b) ∧ W'.cell? ⟨N + 3, 0, none⟩ = some fv) mixed (by simp) (fun ⟨_, _, h⟩ => h) ⟨c1, c3⟩ (fun hHeld => ?_)
    refine wpAnyH_take (i := 0) (v := ?v1) rfl (by kernel_rfl) (by kernel_rfl) (by kernel_rfl) (fun _ _ _ h => h) (Or.inl ⟨by rfl, ?hy1⟩) (by assumption) ?rest1
    case hy1 => (intro W9 hW9; obtain ⟨k0, k1⟩ := hW9; first | (go_simp; done) | (go_simp; with_reducible rfl))
    simp only [Act.put, List.getElem_toArray, List.getElem_cons_succ, List.getElem_cons_zero, List.setIfInBounds_toArray, List.set_cons_zero, List.set_cons_succ]
    refine wpAnyH_take (i := 1) (v := ?v2) rfl (by kernel_rfl) (by kernel_rfl) (by kernel_rfl) (fun _ _ _ h => h) (Or.inl ⟨by rfl, ?hy2⟩) (by assumption) ?rest2
    case hy2 => (intro W9 hW9; obtain ⟨k0, k1⟩ := hW9; first | (go_simp; done) | (go_simp; with_reducible rfl))
    simp only [Act.put, List.getElem_toArray, List.getElem_cons_succ, List.getElem_cons_zero, List.setIfInBounds_toArray, List.set_cons_zero, List.set_cons_succ]
    refine wpAnyH_take (i := 2) (v := ?v3) rfl (by kernel_rfl) (by kernel_rfl) (by kernel_rfl) (fun _ _ _ h => h) (Or.inl ⟨by rfl, ?hy3⟩) (by assumption) ?rest3
    case hy3 => (intro W9 hW9; obtain ⟨k0, k1⟩ := hW9; first | (go_simp; done) | (go_simp; with_reducible rfl))
    simp only [Act.put, List.getElem_toArray, List.getElem_cons_succ, List.getElem_cons_zero, List.setIfInBounds_toArray, List.set_cons_zero, List.set_cons_succ]
    refine wpAnyH_take (i := 4) (v := ?v4) rfl (by kernel_rfl) (by kernel_rfl) (by kernel_rfl) (fun _ _ _ h => h) (Or.inl ⟨by rfl, ?hy4⟩) (by assumption) ?rest4
    case hy4 => (intro W9 hW9; obtain ⟨k0, k1⟩ := hW9; first | (go_simp; done) | (go_simp; with_reducible rfl))
    simp only [Act.put, List.getElem_toArray, List.getElem_cons_succ, List.getElem_cons_zero, List.setIfInBounds_toArray, List.set_cons_zero, List.set_cons_succ]
    have hcz : mb (N + 1) = none := HP.out.new_none (by omega)
    refine wpAnyH_ready (rs := [3]) (by kernel_rfl) (by simp) ?_
    refine AllReadyH.cons rfl (fun K9 hK9 => ?_) AllReadyH.nil
    go_simp
    refine (span_any x x W.drew (by omega) (by omega)).mono ?_
    rintro e w8 ⟨a8, n8, c8, rfl, hr8, hb8⟩
    rw [add_nil (Int.le_refl x)] at hr8
    have hb8' : Below W.heap.size W w8 := (Below.refl _ W).drew.trans hb8
    obtain ⟨k0, k1⟩ := hHeld
    refine hK9.out _ _ ⟨cell_below hb8 k0, cell_below hb8 k1⟩ (fun hHeld => ?_)
    clear hK9 K9 k0 k1
    have hv8 := HV.out.below hb8'
    have e8 : ownAt w8 (N + 1 + 1 + 1 + 1 + 1) = ownAt W (N + 1 + 1 + 1 + 1 + 1) := ownAt_below hb8' hsW
    have hp8 : Pre s mb (Bad (N + 1 + 1 + 1 + 1 + 1) (Loc X N (N + 1 + 1 + 1 + 1 + 1)) w8) (.slice a8 n8 c8) [(x, x)] w8 :=
      ⟨hsz, fun k hk => .inr (.inr (.inl (HP.out.xm k hk))), hv8.fit.2, hr8.weak fun k _ h => by
        have h2 : Bad (N + 1 + 1 + 1 + 1 + 1) (Loc X N (N + 1 + 1 + 1 + 1 + 1)) W k := by unfold Bad at h ⊢; rw [e8] at h; exact h
        exact HV.out.fit.2 k h2, .one (Int.le_refl x), fun z hz => by obtain ⟨r9, h9, h10, h11⟩ := hz; simp at h9; subst h9; simp at h10 h11; omega, hv8.memo⟩
    have hto8 : TreeP w8 mb p rep b := TreeP.out (HOM.out.trans (Out.below hb8')) p HT.out
    have HC8 := Lib.hid (HO.out _ w8 _ x hp8 hto8)
    clear hp8 hto8 hr8
    refine wpAnyH_ready (rs := [5]) (by kernel_rfl) (by simp) ?_
    refine AllReadyH.cons rfl (fun K9 hK9 => ?_) AllReadyH.nil
    go_simp
    rw [HFV.out]
    refine HC8.out.mono ?_
    rintro e w9 ⟨a9, n9, c9, L9, rfl, hr9, he9, ho9, hm9⟩
    obtain ⟨k0, k1⟩ := hHeld
    refine hK9.out _ _ ⟨ho9.cell k0 (fun h => h hcz), ho9.cell k1 (fun h => by have h := HXL.out _ h; have h : N + 3 < N := h; omega)⟩ (fun hHeld => ?_)
    clear hK9 K9 k0 k1
    have hB8 : ∀ k, Bad (N + 1 + 1 + 1 + 1 + 1) (Loc X N (N + 1 + 1 + 1 + 1 + 1)) w8 k ↔ Bad (N + 1 + 1 + 1 + 1 + 1) (Loc X N (N + 1 + 1 + 1 + 1 + 1)) W k := fun k => by unfold Bad; rw [e8]
    obtain ⟨hN9, hI9, hx9⟩ := he9
    have HJ10 := Lib.hid (Var.join_round (Y := fun _ => False) (B := w'.heap.size) hv8 ho9 hm9 hr9 hN9 hI9 hsz (fun k hk => by have := HXL.out k hk; omega))
    clear hr9
    refine wpAnyH_ready (rs := [6]) (by kernel_rfl) (by simp) ?_
    refine AllReadyH.cons rfl (fun K9 hK9 => ?_) AllReadyH.nil
    go_simp
    refine HJ10.out.mono ?_
    rintro e w10 ⟨rfl, hv10, ho10, hk10, hf10⟩
    have ho010 := (HOW.out.comp (Out.below (X := fun _ => False) hb8') (fun _ _ h => h.elim)).comp ho10 fun _ _ h => h
    have hc10 : w10.cell? ⟨N + 1, 0, none⟩ = some (pV b) ∧ w10.cell? ⟨N + 3, 0, none⟩ = some fv :=
      ⟨box_cell ((ho010.block (N + 1) (by omega) (by rintro (h | h); have := HXL.out _ h; omega; omega)).trans H17.out), box_cell ((ho010.block (N + 3) (by omega) (by rintro (h | h); have := HXL.out _ h; omega; omega)).trans H37.out)⟩
    refine hK9.out _ _ hc10 (fun hHeld => ?_)
    clear hK9 K9 hHeld
    refine wpAnyH_done (by kernel_rfl) ?_ _
    gi_wp2
    refine ⟨((KeepsOthers.of_below hb8').from _).trans hf10, (KeepV.below hb8' hsW).trans hk10, _, hv10, fun z => ?_, ho010⟩
    rw [mem_join HV.out.nrm, HJ.out, hx9]
    simp only [List.map_append, List.map_cons, List.map_nil, List.mem_append, List.mem_singleton]
    constructor
    · rintro (⟨y, h1, h2⟩ | ⟨y, h1, h2⟩)
      · exact ⟨y, .inl h1, h2⟩
      · obtain ⟨r9, h9, h10, h11⟩ := h1
        simp at h9; subst h9; simp at h10 h11
        obtain rfl : y = x := by omega
        exact ⟨y, .inr rfl, h2⟩
    · rintro ⟨y, h1 | rfl, h2⟩
      · exact .inl ⟨y, h1, h2⟩
      · exact .inr ⟨y, ⟨(y, y), by simp, by simp, by simp⟩, h2⟩
  case done =>
    rintro D ys W hD hys ⟨J, hv, hJ, hoW⟩ hK
    obtain ⟨v9, hs9⟩ := hv.set
    obtain ⟨a9, c9, rfl, _⟩ := hs9.2.1.form
    have hcc := hs9.cell
    have how : Out (Xm mb) w W := frame_out HB7.out hoW (fun k e => by omega)
    have hr9 := (hoW.block (N + 1 + 1 + 1 + 1) (by omega) (by rintro (h | h); have := HXL.out _ h; omega; omega)).trans H47.out
    have hc9 := box_cell hr9
    have hf9 := frozen_row (j := 0) hr9
    gi_wp2
    have hHb := HP.out.new_none (k := N + 1 + 1 + 1 + 1) (by omega)
    have hrb := box_set hr9 (.slice a9 J.length c9)
    have hDs : (W.setCell ⟨N + 1 + 1 + 1 + 1, 0, none⟩ (.slice a9 J.length c9)).heap[D]? = some (.deferred (some [])) := by
      rw [Below.heap_setCell _ _ _ _ (by show D ≠ N + 1 + 1 + 1 + 1; omega)]; exact hK
    have hc10 := box_cell ((World.putObj_heap_other (o := .deferred none) (show N + 1 + 1 + 1 + 1 ≠ D by omega)).trans hrb)
    have hEE : EndsOf s (p.M s) K J := ⟨hv.nrm, hv.inn, fun x => by
      rw [hJ, hys]
      simp only [mem_ints]⟩
    have hF := fin_post (R := p.M s) (r0 := N + 1 + 1 + 1 + 1) (B := N + 1 + 1 + 1 + 1 + 1) HP.out how hN rfl (hv.rn hs9) hEE hv.memoX (by omega) (by omega) hHb
    have hF2 := hF.put hDs (by omega) (.deferred none)
    have HF2 := Lib.hid hF2
    clear hF hF2 how hEE hys hHb hrb hJ hv
    refine ⟨by simp, .inl ⟨_, _, rfl, run_takeDeferred hDs, ?_⟩⟩
    exact ⟨_, by simp [results, Tryd.results47, go_sem, *], HF2.out⟩
  case stop =>
    rintro D c pre W _ _ h _
    exact h.elim
end Go.Proofs.YtooaamepflkgnaaDoor
