/- Texts that a proof rests on: The contract of minus. | The contract of minus. | The numbers of a set, one by one: the iterator that all hands back. -/
import Derived.Test.YtooaamepflkgnaaDoorN18
import Derived.Deep.RegionHeld3
import Derived.Test.YtooaamepflkgnaaDoorN09
set_option maxRecDepth 100000
namespace Go.Proofs.YtooaamepflkgnaaDoor
open Go.RowKit

/-- One round of minus. -/
def mstep (M : List (Int × Int)) (a : List (Int × Int)) (r : Int × Int) : List (Int × Int) := addR (mloop a r.1 r.2 (M.drop (below r.1 M))).1 (mloop a r.1 r.2 (M.drop (below r.1 M))).2 r.2
theorem minusR_fold (L M : List (Int × Int)) : minusR L M = L.foldl (mstep M) [] := rfl
theorem mfold_take (L M : List (Int × Int)) (k : Nat) (h : k < L.length) : (L.take (k + 1)).foldl (mstep M) [] = mstep M ((L.take k).foldl (mstep M) []) L[k] := by
  rw [List.take_succ_eq_append_getElem h, List.foldl_append]; rfl
theorem mfold_good (L : List (Int × Int)) {M : List (Int × Int)} (hM : Nrm M) {n : Int} (hL : In n L) (k : Nat) : Nrm ((L.take k).foldl (mstep M) []) ∧ In n ((L.take k).foldl (mstep M) []) := by
  have h := minus_from hM (L.take k) [] .nil
  refine ⟨h.1, fun x hx => ?_⟩
  have := (h.2 x).1 hx
  rw [mem_nil, false_or] at this
  exact hL.take k x this.1
theorem mloop_step (a : List (Int × Int)) (lo hi : Int) (gs : List (Int × Int)) (m : Nat) (h : m < gs.length) :
    (hi < gs[m].1 → mloop a lo hi (gs.drop m) = (a, lo)) ∧ (¬ hi < gs[m].1 → mloop a lo hi (gs.drop m) = mloop (addR a lo (gs[m].1 - 1)) (gs[m].2 + 1) hi (gs.drop (m + 1))) := by
  rw [List.drop_eq_getElem_cons h]
  exact ⟨fun h => by rw [mloop, if_pos h], fun h => by rw [mloop, if_neg h]⟩
theorem Added.keep {bp base : Nat} {v : Value} {L : List (Int × Int)} {w w' : World} (h : Added bp base v L w w') {c : Nat} (hc : c < w.heap.size) (h1 : c ≠ bp) (h2 : ∀ g, v.ownBlock = some g → g ≠ c) : w'.heap[c]? = w.heap[c]? := by
  obtain ⟨_, _, ho, _⟩ := h
  exact ho.block c hc (by rintro (h | h); exact h1 h; exact h2 c h rfl)
theorem Added.below {bp base : Nat} {v : Value} {L K : List (Int × Int)} {w w' : World} (h : Added bp base v L w w') (hs : SetB w bp base v K) : Below bp w w' := by
  obtain ⟨_, _, ho, _⟩ := h
  refine ho.to_below (fun k _ h => ?_) (Nat.le_of_lt hs.lt)
  rcases h with h | h
  · omega
  · have := (hs.own h).1; have := hs.2.2.1; omega
theorem Rn.low {w w' : World} {bp : Nat} {v : Value} {L : List (Int × Int)} (h : Rn w (fun k => bp ≤ k) v L) (hb : Below bp w w') : Rn w' (fun k => bp ≤ k) v L := by
  rcases h with h | ⟨b, o, c, e, hc, hn, hr⟩
  · exact .inl h
  · refine .inr ⟨b, o, c, e, hc, hn, fun i hi => ?_⟩
    have hlt : b < bp := by have hn : ¬ bp ≤ b := hn (ne_of_lt hi); omega
    have hblk := hb.block b hlt
    exact ⟨(World.cell?_of_block (a := ⟨b, o + i * 2, none⟩) hblk).trans (hr i hi).1, (World.cell?_of_block (a := ⟨b, o + i * 2 + 1, none⟩) hblk).trans (hr i hi).2⟩
theorem Rn.all_low {w : World} {X : Nat → Prop} {bp : Nat} {v : Value} {L : List (Int × Int)} (h : Rn w X v L) (hb : w.heap.size ≤ bp) : Rn w (fun k => bp ≤ k) v L := by
  rcases h with h | ⟨b, o, c, e, hc, hn, hr⟩
  · exact .inl h
  · refine .inr ⟨b, o, c, e, hc, fun h0 => ?_, hr⟩
    have := cell_lt (hr 0 (List.length_pos_iff.2 h0)).1
    show ¬ bp ≤ b
    simp at this; omega
end Go.Proofs.YtooaamepflkgnaaDoor
set_option maxRecDepth 100000
namespace Go.Proofs.YtooaamepflkgnaaDoor
open Go.RowKit

theorem u1_keep {wr W W' : World} {c : Nat} {u : Value} (h : W.cell? ⟨c, 0, none⟩ = some u ∧ Below wr.heap.size wr W) (hb : Below W.heap.size W W') : W'.cell? ⟨c, 0, none⟩ = some u ∧ Below wr.heap.size wr W' :=
  ⟨cell_below hb h.1, h.2.trans (hb.mono h.2.size)⟩
theorem u1_start {wr W : World} {c : Nat} {u : Value} (hx : wr.cell? ⟨c, 0, none⟩ = some u) (hb : Below wr.heap.size wr W) : W.cell? ⟨c, 0, none⟩ = some u ∧ Below wr.heap.size wr W :=
  ⟨cell_below hb hx, hb⟩
theorem u1_cell {wr W : World} {c : Nat} {u : Value} (h : W.cell? ⟨c, 0, none⟩ = some u ∧ Below wr.heap.size wr W) : W.cell? ⟨c, 0, none⟩ = some u := h.1
theorem u1_below {wr W : World} {c : Nat} {u : Value} (h : W.cell? ⟨c, 0, none⟩ = some u ∧ Below wr.heap.size wr W) : Below wr.heap.size wr W := h.2
theorem four_boxes (w : World) (x y z t : Value) (e1 e2 e3 e4 : TypeId) (n : Nat) (hn : w.heap.size = n) :
    Below n w ((((w.alloc (.cells #[x] e1)).alloc (.cells #[y] e2)).alloc (.cells #[z] e3)).alloc (.cells #[t] e4)) ∧
    ((((w.alloc (.cells #[x] e1)).alloc (.cells #[y] e2)).alloc (.cells #[z] e3)).alloc (.cells #[t] e4)).heap.size = n + 4 ∧
    ((((w.alloc (.cells #[x] e1)).alloc (.cells #[y] e2)).alloc (.cells #[z] e3)).alloc (.cells #[t] e4)).heap[n]? = some (.cells #[x] e1 (0, 0)) ∧
    ((((w.alloc (.cells #[x] e1)).alloc (.cells #[y] e2)).alloc (.cells #[z] e3)).alloc (.cells #[t] e4)).heap[n + 1]? = some (.cells #[y] e2 (0, 0)) ∧
    ((((w.alloc (.cells #[x] e1)).alloc (.cells #[y] e2)).alloc (.cells #[z] e3)).alloc (.cells #[t] e4)).heap[n + 2]? = some (.cells #[z] e3 (0, 0)) ∧
    ((((w.alloc (.cells #[x] e1)).alloc (.cells #[y] e2)).alloc (.cells #[z] e3)).alloc (.cells #[t] e4)).heap[n + 3]? = some (.cells #[t] e4 (0, 0)) := by
  subst hn
  have s1 : (w.alloc (.cells #[x] e1)).heap.size = w.heap.size + 1 := by simp
  have s2 : ((w.alloc (.cells #[x] e1)).alloc (.cells #[y] e2)).heap.size = w.heap.size + 2 := by simp
  have s3 : (((w.alloc (.cells #[x] e1)).alloc (.cells #[y] e2)).alloc (.cells #[z] e3)).heap.size = w.heap.size + 3 := by simp
  have n1 := heap_alloc_new w (.cells #[x] e1)
  have n2 := heap_alloc_new (w.alloc (.cells #[x] e1)) (.cells #[y] e2)
  have n3 := heap_alloc_new ((w.alloc (.cells #[x] e1)).alloc (.cells #[y] e2)) (.cells #[z] e3)
  have n4 := heap_alloc_new (((w.alloc (.cells #[x] e1)).alloc (.cells #[y] e2)).alloc (.cells #[z] e3)) (.cells #[t] e4)
  rw [s1] at n2
  rw [s2] at n3
  rw [s3] at n4
  refine ⟨(below3 w _ _ _).alloc (by rw [s3]; omega) _, by simp, ?_, ?_, ?_, n4⟩
  · rw [heap_alloc_old _ _ (by omega), heap_alloc_old _ _ (by omega), heap_alloc_old _ _ (by omega)]; exact n1
  · rw [heap_alloc_old _ _ (by omega), heap_alloc_old _ _ (by omega)]; exact n2
  · rw [heap_alloc_old _ _ (by omega)]; exact n3
theorem box_cell {w : World} {b : Nat} {x : Value} {e : TypeId} (h : w.heap[b]? = some (.cells #[x] e (0, 0))) : w.cell? ⟨b, 0, none⟩ = some x := (cell_of_row _ _ 0 _ _ _ h).trans rfl
theorem pair_cells {w : World} {b : Nat} {x y : Value} {e : TypeId} (h : w.heap[b]? = some (.cells #[x, y] e (0, 0))) : w.cell? ⟨b, 0, none⟩ = some x ∧ w.cell? ⟨b, 1, none⟩ = some y := ⟨(cell_of_row _ _ 0 _ _ _ h).trans rfl, (cell_of_row _ _ 1 _ _ _ h).trans rfl⟩
theorem Rn.cut {w : World} {X : Nat → Prop} {a2 : Option Addr} {c2 q : Nat} {M : List (Int × Int)} (h : Rn w X (.slice a2 M.length c2) M) (hq : q ≤ M.length) :
    Rn w X (.slice (if c2 = q then a2 else Option.map (fun x => x.add (q * 2)) a2) (M.length - q) (c2 - q)) (M.drop q) := by
  rcases h with ⟨e, rfl⟩ | ⟨b, o, c, e, hc, hn, hr⟩
  · cases e
    obtain rfl : q = 0 := by simpa using hq
    exact .inl ⟨rfl, rfl⟩
  · cases e
    have hl : (M.drop q).length = M.length - q := List.length_drop
    by_cases hcq : c2 = q
    · rw [if_pos hcq]
      refine .inr ⟨b, o, c2 - q, by rw [hl], by omega, fun h0 => ?_, fun i hi => ?_⟩
      · exact absurd (List.drop_eq_nil_of_le (by omega)) h0
      · omega
    · rw [if_neg hcq]
      refine .inr ⟨b, o + q * 2, c2 - q, by rw [hl, Option.map_some, Addr.add_lit], by omega, fun h0 => hn fun e => h0 (by rw [e, List.drop_nil]), fun i hi => ?_⟩
      have := hr (q + i) (by omega)
      rw [List.getElem_drop, show o + q * 2 + i * 2 = o + (q + i) * 2 by omega]
      exact this
/-- The inner loop of minus: where it stands. -/
structure MIn (bp nr : Nat) (r1 r2 : Int) (n : Int) (A gs : List (Int × Int)) (w1 : World) (m : Nat) (lo : Int) (wr : World) : Prop where
  st : ∃ v acc, SetB wr bp (bp + 1) v acc ∧ Nrm acc ∧ In n acc ∧ mloop A r1 r2 gs = mloop acc lo r2 (gs.drop m) ∧ ∀ g, v.ownBlock = some g → g ≠ nr
  lo0 : 0 ≤ lo
  lo1 : lo ≤ n + 1
  bel : Below bp w1 wr
  row : wr.heap[nr]? = some (.cells #[.int .i64 r1, .int .i64 r2] 75 (0, 0))
set_option maxHeartbeats 8000000 in
theorem minus_any (v u : Value) (L M : List (Int × Int)) (X : Nat → Prop) (n : Int) (w : World) (hL : Nrm L) (hLn : In n L) (hM : Nrm M) (hMn : In n M) (hn0 : 0 ≤ n) (hn : n ≤ 5000) (hv : Rn w X v L) (hu : Rn w X u M) :
    Calls Tryd.prog 62 #[.agg #[v], .agg #[u]] w fun e w' => ∃ a n c, e = .returned (.agg #[.slice a n c]) ∧ Rn w' (fun k => k < w.heap.size) (.slice a n c) (minusR L M) ∧ Below w.heap.size w w' := by
  obtain ⟨a, c, rfl⟩ := hv.len
  obtain ⟨a2, c2, rfl⟩ := hu.len
  have hsmL := hLn.small hL hn0 hn
  have hsmM := hMn.small hM hn0 hn
  obtain ⟨N, hN⟩ : ∃ N, w.heap.size = N := ⟨_, rfl⟩
  obtain ⟨hb1, hsz1, h0, h1, h2, h3⟩ := four_boxes w (.slice a L.length c) (.slice a2 M.length c2) (.slice none 0 0) (.slice none 0 0) 61 61 61 61 N hN
  obtain ⟨w1, hw1⟩ : ∃ w1, w1 = (((w.alloc (.cells #[.slice a L.length c] 61)).alloc (.cells #[.slice a2 M.length c2] 61)).alloc (.cells #[.slice none 0 0] 61)).alloc (.cells #[.slice none 0 0] 61) := ⟨_, rfl⟩
  rw [← hw1] at hb1 hsz1 h0 h1 h2 h3
  have hvL := Lib.hid ((hv.all_low (bp := N + 1 + 1 + 1) (by omega)).below (by rw [hN]; exact hb1))
  have huL := Lib.hid ((hu.all_low (bp := N + 1 + 1 + 1) (by omega)).below (by rw [hN]; exact hb1))
  have HS : Hid (SetB w1 (N + 1 + 1 + 1) (N + 1 + 1 + 1 + 1) (.slice none 0 0) []) := ⟨h3, RRow.nil _ _, by omega, by omega⟩
  have hc0 := box_cell h0
  have hc1 := box_cell h1
  have H1 := Lib.hid h1
  have H2 := Lib.hid h2
  have HB1 := Lib.hid hb1
  clear h0 h1 h2 h3 hv hu hb1
  go_enter Tryd.func62, Tryd.ntmps62
  go_wp2
  rw [← hw1]
  clear hw1
  have hNS : ∀ k, Nrm ((L.take k).foldl (mstep M) []) ∧ In n ((L.take k).foldl (mstep M) []) := fun k => mfold_good L hM hLn k
  have HNS := Lib.hid hNS
  clear hNS
  go_loopw [14] (fun x wr => ∃ k : Nat, x = .int .i64 k ∧ k ≤ L.length ∧ ∃ v', SetB wr (N + 1 + 1 + 1) (N + 1 + 1 + 1 + 1) v' ((L.take k).foldl (mstep M) []) ∧ Below (N + 1 + 1 + 1) w1 wr) (fun x _ => L.length - (intOf x).toNat)
  case atStart => exact ⟨0, rfl, Nat.zero_le _, _, HS.out, Below.refl _ _⟩
  case round =>
    obtain ⟨k, rfl, hk, v', hsr, hbr⟩ := hrel
    by_cases hkl : k < L.length
    · obtain ⟨b, o, c', e, _, _, hrow⟩ := (hvL.out.low hbr).row (by omega)
      cases e
      obtain ⟨hx, hy⟩ := hrow k hkl
      clear hrow
      have hbd := hLn.run hL (List.getElem_mem hkl)
      have HJT := Lib.hid (mfold_take L M k hkl)
      obtain ⟨r1, hr1⟩ : ∃ z, L[k].1 = z := ⟨_, rfl⟩
      obtain ⟨r2, hr2⟩ : ∃ z, L[k].2 = z := ⟨_, rfl⟩
      have hLk : L[k] = (r1, r2) := Prod.ext hr1 hr2
      rw [hr1, hr2] at hbd
      rw [hr1] at hx
      rw [hr2] at hy
      rw [hLk] at HJT
      clear hr1 hr2 hLk
      have hA := HNS.out k
      obtain ⟨A, hAe⟩ : ∃ A, (L.take k).foldl (mstep M) [] = A := ⟨_, rfl⟩
      rw [hAe] at hA hsr HJT
      clear hAe
      obtain ⟨nr, hnr⟩ : ∃ nr, wr.heap.size = nr := ⟨_, rfl⟩
      obtain ⟨w2, hw2⟩ : ∃ w2, wr.alloc (.cells #[.int .i64 r1, .int .i64 r2] 75) = w2 := ⟨_, rfl⟩
      have hb2 : Below wr.heap.size wr w2 := by rw [← hw2]; exact below_one wr _
      have hs2 := hsr.below hb2
      have hrow2 : w2.heap[nr]? = some (.cells #[.int .i64 r1, .int .i64 r2] 75 (0, 0)) := by rw [← hw2, ← hnr]; exact heap_alloc_new wr _
      have hsl := hsr.lt
      have hb12 : Below (N + 1 + 1 + 1) w1 w2 := hbr.trans (hb2.mono (by omega))
      have hc1r : w2.cell? ⟨N + 1, 0, none⟩ = some (.slice a2 M.length c2) := box_cell ((hb12.block (N + 1) (by omega)).trans H1.out)
      have hu2 := huL.out.low hb12
      have hrc := pair_cells hrow2
      obtain ⟨q, hq⟩ : ∃ q, below r1 M = q := ⟨_, rfl⟩
      have hql : q ≤ M.length := by rw [← hq]; exact below_le _ _
      have hbd2 : Below w2.heap.size w2 w2 := Below.refl _ _
      go_wp2
      go_region_held3 (fun W => W.cell? ⟨N + 1, 0, none⟩ = some (.slice a2 M.length c2) ∧ Below w2.heap.size w2 W)
        (first | (with_reducible exact u1_keep (by assumption) (by assumption)) | (with_reducible exact u1_start hc1r (Below.refl _ _).drew))
        (first | (go_at_call 64; (with_reducible refine (reach_any M (.slice a2 M.length c2) _ r1 _ hM (by omega) (hu2.below (u1_below (by assumption)))).mono ?_); rw [hq]; rintro e w4 ⟨rfl, hb4⟩))
      rename_i hS4
      have hS4b := u1_below hS4
      clear hS4
      have hb24 : Below w2.heap.size w2 w4 := hS4b
      have hbw4 : Below (N + 1 + 1 + 1) w1 w4 := hb12.trans (hb24.mono (by have := hb12.size; omega))
      have hG := (huL.out.low hbw4).cut hql
      obtain ⟨gs, hgs⟩ : ∃ gs, M.drop q = gs := ⟨_, rfl⟩
      have hgl : M.length - q = gs.length := by rw [← hgs, List.length_drop]
      have hgN : Nrm gs := by rw [← hgs]; exact hM.drop q
      have hgI : In n gs := by rw [← hgs]; exact fun x ⟨r, hr, h1⟩ => hMn x ⟨r, List.mem_of_mem_drop hr, h1⟩
      have hgsm := hgI.small hgN hn0 hn
      have HQ : Hid (M.drop (below r1 M) = gs) := by rw [Hid, hq, hgs]
      rw [hgs] at hG
      rw [hgl] at hG ⊢
      generalize (if c2 = q then a2 else Option.map (fun x => x.add (q * 2)) a2) = a3 at hG ⊢
      generalize c2 - q = c3 at hG ⊢
      have hs4 := hs2.below hb24
      have hr4 : w4.heap[nr]? = some (.cells #[.int .i64 r1, .int .i64 r2] 75 (0, 0)) := (hb24.block nr (lt_of_block hrow2)).trans hrow2
      have hown4 : ∀ g, v'.ownBlock = some g → g ≠ nr := fun g e => by have := (hsr.own e).2; omega
      have HG := Lib.hid hG
      clear hG hgs hgl hq hS4b hb24 hs2 hsr hrow2 hrc hc1r hu2 hbd2 hw2 hb2
      go_wp2
      go_loopw [8, 27] (fun x y wi => ∃ (m : Nat) (lo5 : Int), x = .int .i64 lo5 ∧ y = .int .i64 m ∧ m ≤ gs.length ∧ MIn (N + 1 + 1 + 1) nr r1 r2 n A gs w4 m lo5 wi) (fun _ y _ => gs.length - (intOf y).toNat)
      case atStart => exact ⟨0, r1, rfl, rfl, Nat.zero_le _, ⟨v', A, hs4, hA.1, hA.2, rfl, hown4⟩, by omega, by omega, Below.refl _ _, hr4⟩
      case round =>
        obtain ⟨m, lo5, rfl, rfl, hm5, hin⟩ := hrel
        obtain ⟨v5, acc, hs5, hN5, hI5, hend, hown5⟩ := hin.st
        obtain ⟨d0, d1⟩ := pair_cells hin.row
        have hlo0 := hin.lo0
        have hlo1 := hin.lo1
        have HS5 := Lib.hid hs5
        have hbl5 := hin.bel
        have hrow5 := hin.row
        clear hin
        by_cases hml : m < gs.length
        · obtain ⟨bg, og, cg, e, _, _, hrg⟩ := (HG.out.low hbl5).row (by omega)
          cases e
          obtain ⟨hx5, hy5⟩ := hrg m hml
          clear hrg
          have hbdg := hgI.run hgN (List.getElem_mem hml)
          have HST := Lib.hid (mloop_step acc lo5 r2 gs m hml)
          obtain ⟨g1, hg1⟩ : ∃ z, gs[m].1 = z := ⟨_, rfl⟩
          obtain ⟨g2, hg2⟩ : ∃ z, gs[m].2 = z := ⟨_, rfl⟩
          rw [hg1, hg2] at hbdg HST
          rw [hg1] at hx5
          rw [hg2] at hy5
          clear hg1 hg2
          obtain ⟨ng, hng⟩ : ∃ ng, wr.heap.size = ng := ⟨_, rfl⟩
          obtain ⟨w6, hw6⟩ : ∃ w6, wr.alloc (.cells #[.int .i64 g1, .int .i64 g2] 75) = w6 := ⟨_, rfl⟩
          have hb6 : Below wr.heap.size wr w6 := by rw [← hw6]; exact below_one wr _
          have hs6 := hs5.below hb6
          have hrow6 : w6.heap[ng]? = some (.cells #[.int .i64 g1, .int .i64 g2] 75 (0, 0)) := by rw [← hw6, ← hng]; exact heap_alloc_new wr _
          have hrow7 := (hb6.block nr (lt_of_block hrow5)).trans hrow5
          obtain ⟨d0', d1'⟩ := pair_cells hrow7
          obtain ⟨e0, e1⟩ := pair_cells hrow6
          have hsl5 := hs5.lt
          have hnrlt := lt_of_block hrow5
          have hbl6 : Below (N + 1 + 1 + 1) w4 w6 := hbl5.trans (hb6.mono (by omega))
          have HS6 := Lib.hid hs6
          have hown6 : ∀ g, v5.ownBlock = some g → g ≠ ng := fun g e => by have := (hs5.own e).2; omega
          clear hs5 hs6
          by_cases hbr5 : r2 < g1
          · rw [HST.out.1 hbr5] at hend
            have HC := Lib.hid (add_any (N + 1 + 1 + 1) (N + 1 + 1 + 1 + 1) v5 acc lo5 r2 _ HS6.out hN5 (hI5.small hN5 hn0 hn) (hI5.bd hN5 hn) (by omega) (by omega))
            have hend5 := Lib.hid hend
            clear hend hm5
            go_wp2_with (go_at_call 50; refine HC.out.mono ?_; rintro e w7 ⟨rfl, hA7⟩)
            go_roundw
            case rel =>
              have hb7 := hA7.below HS6.out
              obtain ⟨v7, hs7, _⟩ := hA7
              exact ⟨k + 1, num_succ k, by omega, v7, by rw [HJT.out]; show SetB w7 _ _ v7 (addR (mloop A r1 r2 (M.drop (below r1 M))).1 (mloop A r1 r2 (M.drop (below r1 M))).2 r2); rw [HQ.out, hend5.out]; exact hs7, hbw4.trans (hbl6.trans hb7)⟩
            case measure => simp [intOf]; omega
          · rw [HST.out.2 hbr5] at hend
            have hend5 := Lib.hid hend
            clear hend
            have HC := Lib.hid (add_any (N + 1 + 1 + 1) (N + 1 + 1 + 1 + 1) v5 acc lo5 (g1 - 1) _ HS6.out hN5 (hI5.small hN5 hn0 hn) (hI5.bd hN5 hn) (by omega) (by omega))
            have hN8 := hN5.add lo5 (g1 - 1)
            have hI8 : In n (addR acc lo5 (g1 - 1)) := fun x hx => by
              rcases (mem_add hN5 _ _ x).1 hx with h | h
              · exact hI5 x h
              · omega
            go_wp2_with (go_at_call 50; refine HC.out.mono ?_; rintro e w7 ⟨rfl, hA7⟩; have hrow8 := (hA7.keep (lt_of_block hrow6) (by omega) hown6).trans hrow6; obtain ⟨e2, e3⟩ := pair_cells hrow8)
            go_roundw
            case rel =>
              have hb7 := hA7.below HS6.out
              have hrow9 := (hA7.keep (lt_of_block hrow7) (by have := hsl5; omega) hown5).trans hrow7
              obtain ⟨v7, hs7, _, hown7⟩ := hA7
              refine ⟨m + 1, g2 + 1, rfl, num_succ m, by omega, ⟨v7, addR acc lo5 (g1 - 1), hs7, hN8, hI8, hend5.out, fun g e => ?_⟩, by omega, by omega, hbl6.trans hb7, hrow9⟩
              rcases hown7 g e with h | h
              · exact hown5 g h
              · have := lt_of_block hrow7; omega
            case measure => simp [intOf]; omega
        · obtain rfl : m = gs.length := by omega
          rw [List.drop_length, mloop] at hend
          have HS6 := Lib.hid hs5
          have hbl6 := hbl5
          clear hs5
          have HC := Lib.hid (add_any (N + 1 + 1 + 1) (N + 1 + 1 + 1 + 1) v5 acc lo5 r2 _ HS6.out hN5 (hI5.small hN5 hn0 hn) (hI5.bd hN5 hn) (by omega) (by omega))
          have hend5 := Lib.hid hend
          clear hend hm5
          go_wp2_with (go_at_call 50; refine HC.out.mono ?_; rintro e w7 ⟨rfl, hA7⟩)
          go_roundw
          case rel =>
            have hb7 := hA7.below HS6.out
            obtain ⟨v7, hs7, _⟩ := hA7
            exact ⟨k + 1, num_succ k, by omega, v7, by rw [HJT.out]; show SetB w7 _ _ v7 (addR (mloop A r1 r2 (M.drop (below r1 M))).1 (mloop A r1 r2 (M.drop (below r1 M))).2 r2); rw [HQ.out, hend5.out]; exact hs7, hbw4.trans (hbl6.trans hb7)⟩
          case measure => simp [intOf]; omega
    · obtain rfl : k = L.length := by omega
      rw [List.take_length] at hsr
      obtain ⟨a9, c9, rfl, hnc9⟩ := hsr.2.1.form
      have hcc := hsr.cell
      have hr9 : wr.heap[N + 1 + 1]? = some (.cells #[.slice none 0 0] 61 (0, 0)) := (hbr.block (N + 1 + 1) (by omega)).trans H2.out
      have hc9 := box_cell hr9
      have hf9 := frozen_row (j := 0) hr9
      have hF := fin_set (w := w) hsr (by rw [hN]; exact HB1.out.trans (hbr.mono (by omega))) (r0 := N + 1 + 1) (by omega) (by omega)
      go_wp2
      exact bodyPost_ret (v := .agg #[.slice a9 (L.foldl (mstep M) []).length c9]) (by simp [results, Tryd.results62, go_sem, *]) rfl ⟨_, _, _, rfl, hF.1, hF.2⟩
end Go.Proofs.YtooaamepflkgnaaDoor
set_option maxRecDepth 100000
namespace Go.Proofs.YtooaamepflkgnaaDoor
open Go.RowKit Go.Shelf
attribute [local go_sem] Oper.semAt_some

/-- So many numbers from a on. -/
def seg (a : Int) (m : Nat) : List Int := (List.range m).map (fun i : Nat => a + i)
theorem seg_succ (a : Int) (m : Nat) : seg a (m + 1) = seg a m ++ [a + m] := by simp [seg, List.range_succ]
theorem seg_zero (a : Int) : seg a 0 = [] := rfl
theorem seg_length (a : Int) (m : Nat) : (seg a m).length = m := by simp [seg]
theorem mem_seg (a x : Int) (m : Nat) : x ∈ seg a m ↔ a ≤ x ∧ x < a + m := by
  simp only [seg, List.mem_map, List.mem_range]
  constructor
  · rintro ⟨i, hi, rfl⟩; omega
  · intro h; exact ⟨(x - a).toNat, by omega, by omega⟩
/-- All numbers of runs. -/
def ints (L : List (Int × Int)) : List Int := L.flatMap (fun r => seg r.1 (r.2 + 1 - r.1).toNat)
theorem mem_ints (L : List (Int × Int)) (x : Int) : x ∈ ints L ↔ mem L x := by
  simp only [ints, List.mem_flatMap, mem_seg, mem]
  constructor
  · rintro ⟨r, hr, h⟩; exact ⟨r, hr, by omega⟩
  · rintro ⟨r, hr, h⟩; exact ⟨r, hr, by omega⟩
theorem ints_take (L : List (Int × Int)) (k : Nat) (h : k < L.length) : ints (L.take (k + 1)) = ints (L.take k) ++ seg L[k].1 (L[k].2 + 1 - L[k].1).toNat := by
  unfold ints; rw [List.take_succ_eq_append_getElem h, List.flatMap_append]; simp
theorem ints_split (L : List (Int × Int)) (k : Nat) (h : k < L.length) : ints L = ints (L.take k) ++ (seg L[k].1 (L[k].2 + 1 - L[k].1).toNat ++ ints (L.drop (k + 1))) := by
  unfold ints
  conv => lhs; rw [← List.take_append_drop k L, List.drop_eq_getElem_cons h]
  rw [List.flatMap_append, List.flatMap_cons]
theorem ints_len {n : Int} : ∀ {L : List (Int × Int)} (c : Int), Nrm L → (∀ r ∈ L, c ≤ r.1 ∧ r.2 ≤ n) → c ≤ n + 1 → ((ints L).length : Int) ≤ n + 1 - c
  | [], c, _, _, hc => by simp [ints]; omega
  | r :: L, c, hN, h, _ => by
    have hN2 := Nrm.cons.1 hN
    have hr := h r (by simp)
    have := ints_len (n := n) (L := L) (r.2 + 1) hN2.2.2 (fun q hq => ⟨by have := hN2.2.1 q hq; omega, (h q (by simp [hq])).2⟩) (by omega)
    have e : ints (r :: L) = seg r.1 (r.2 + 1 - r.1).toNat ++ ints L := by simp [ints]
    rw [e, List.length_append, seg_length]
    have := hN2.1
    omega
theorem In.ints {n : Int} {L : List (Int × Int)} (hN : Nrm L) (h : In n L) (hn : 0 ≤ n) : ((ints L).length : Int) ≤ n + 1 := by
  have := ints_len (n := n) (L := L) 0 hN (fun r hr => by have := h.run hN hr; omega) (by omega)
  omega
/-- The block in which the row of a variable lies. -/
def ownAt (W : World) (bp : Nat) : Option Nat := (W.cell? ⟨bp, 0, none⟩).bind Value.ownBlock
/-- What may change while a variable at bp is written: it, its row, and Y. -/
def Bad (bp : Nat) (Y : Nat → Prop) (W : World) : Nat → Prop := fun k => k = bp ∨ ownAt W bp = some k ∨ Y k
def Fit (bp : Nat) (Y : Nat → Prop) (W : World) : Prop := bp < W.heap.size ∧ ∀ k, Bad bp Y W k → k < W.heap.size
/-- What a round keeps. -/
structure KeepV (bp : Nat) (Y : Nat → Prop) (W W' : World) : Prop where
  os : W'.os = W.os
  tape : W'.tape = W.tape
  output : W'.output = W.output
  size : W.heap.size ≤ W'.heap.size
  block : ∀ k o, W.heap[k]? = some o → o.isCells = true → ¬ Bad bp Y W k → W'.heap[k]? = some o
  own : ∀ g, ownAt W' bp = some g → ownAt W bp = some g ∨ W.heap.size ≤ g
  fit : (∀ g, ownAt W bp = some g → g < W.heap.size) → ∀ g, ownAt W' bp = some g → g < W'.heap.size
theorem cell_obj {W : World} {a : Addr} {x : Value} (h : W.cell? a = some x) : ∃ o, W.heap[a.block]? = some o ∧ o.isCells = true := by
  unfold World.cell? at h
  cases e : W.heap[a.block]? with
  | none => simp [e] at h
  | some o => cases o <;> simp [e] at h <;> exact ⟨_, rfl, rfl⟩
theorem KeepV.still {bp : Nat} {Y : Nat → Prop} {W W' : World} (h : KeepV bp Y W W') {k : Nat} (hk : k < W.heap.size) (hb : ¬ Bad bp Y W k) : ¬ Bad bp Y W' k := by
  rintro (e | e | e)
  · exact hb (.inl e)
  · rcases h.own k e with h1 | h1
    · exact hb (.inr (.inl h1))
    · omega
  · exact hb (.inr (.inr e))
theorem KeepV.trans {bp : Nat} {Y : Nat → Prop} {A B C : World} (h : KeepV bp Y A B) (k : KeepV bp Y B C) : KeepV bp Y A C :=
  ⟨k.os.trans h.os, k.tape.trans h.tape, k.output.trans h.output, Nat.le_trans h.size k.size, fun i o hi ho hb => k.block i o (h.block i o hi ho hb) ho (h.still (lt_of_block hi) hb),
    fun g hg => by
      rcases k.own g hg with h1 | h1
      · exact h.own g h1
      · exact .inr (Nat.le_trans h.size h1), fun hf => k.fit (h.fit hf)⟩
theorem KeepV.fits {bp : Nat} {Y : Nat → Prop} {W W' : World} (h : KeepV bp Y W W') (hf : Fit bp Y W) : Fit bp Y W' := by
  have := h.size
  refine ⟨by have := hf.1; omega, ?_⟩
  rintro k (e | e | e)
  · have := hf.1; omega
  · exact h.fit (fun g hg => hf.2 g (.inr (.inl hg))) k e
  · have := hf.2 k (.inr (.inr e)); omega
theorem KeepV.rn {bp : Nat} {Y : Nat → Prop} {W W' : World} (h : KeepV bp Y W W') {v : Value} {L : List (Int × Int)} (hr : Rn W (Bad bp Y W) v L) : Rn W' (Bad bp Y W') v L := by
  rcases hr with hr | ⟨b, o, c, e, hc, hn, hr⟩
  · exact .inl hr
  · refine .inr ⟨b, o, c, e, hc, fun h0 => h.still (cell_lt (hr 0 (List.length_pos_iff.2 h0)).1) (hn h0), fun i hi => ?_⟩
    obtain ⟨ob, h1, h2⟩ := cell_obj (hr i hi).1
    have h3 := (h.block b ob h1 h2 (hn (ne_of_lt hi))).trans h1.symm
    exact ⟨(World.cell?_of_block (a := ⟨b, o + i * 2, none⟩) h3).trans (hr i hi).1, (World.cell?_of_block (a := ⟨b, o + i * 2 + 1, none⟩) h3).trans (hr i hi).2⟩
theorem ownAt_block {W W' : World} {bp : Nat} (h : W'.heap[bp]? = W.heap[bp]?) : ownAt W' bp = ownAt W bp := by
  unfold ownAt; rw [World.cell?_of_block (a := ⟨bp, 0, none⟩) h]
theorem ownAt_below {W W' : World} {bp : Nat} (hb : Below W.heap.size W W') (hp : bp < W.heap.size) : ownAt W' bp = ownAt W bp := ownAt_block (hb.block bp hp)
theorem KeepV.below {bp : Nat} {Y : Nat → Prop} {W W' : World} (hb : Below W.heap.size W W') (hp : bp < W.heap.size) : KeepV bp Y W W' :=
  ⟨hb.os, hb.tape, hb.output, hb.size, fun k o h _ _ => (hb.block k (lt_of_block h)).trans h, fun g hg => .inl (by rw [← ownAt_below hb hp]; exact hg), fun hf g hg => by rw [ownAt_below hb hp] at hg; have := hf g hg; have := hb.size; omega⟩
theorem keepV_b {bp n₀ : Nat} {Y : Nat → Prop} (hp : bp < n₀) (W : World) (l : Nat) (o o' : Obj) (hl : n₀ ≤ l) (h : W.heap[l]? = some o) (h1 : o.isCells = false) (_ : o.isWalk = false) : KeepV bp Y W (W.putObj l o') := by
  have hown : ownAt (W.putObj l o') bp = ownAt W bp := ownAt_block (World.putObj_heap_other (by omega))
  refine ⟨rfl, rfl, rfl, by simp, fun k ob hk ho _ => ?_, fun g hg => .inl (by rw [← hown]; exact hg), fun hf g hg => by rw [hown] at hg; have := hf g hg; simpa using this⟩
  by_cases e : k = l
  · subst e; rw [hk] at h; cases h; rw [ho] at h1; cases h1
  · rw [World.putObj_heap_other e]; exact hk
/-- A variable's set and what was added to it. -/
theorem SetB.ownAt {w : World} {bp base : Nat} {v : Value} {L : List (Int × Int)} (h : SetB w bp base v L) : ownAt w bp = v.ownBlock := by
  unfold Go.Proofs.YtooaamepflkgnaaDoor.ownAt; rw [h.cell]; rfl
theorem SetB.fit {w : World} {bp base : Nat} {v : Value} {L : List (Int × Int)} {Y : Nat → Prop} (h : SetB w bp base v L) (hY : ∀ k, Y k → k < w.heap.size) : Fit bp Y w := by
  refine ⟨h.lt, ?_⟩
  rintro k (e | e | e)
  · have := h.lt; omega
  · rw [h.ownAt] at e; exact (h.own e).2
  · exact hY k e
theorem Added.keepV {bp base : Nat} {v : Value} {L L0 : List (Int × Int)} {w w' : World} (h : Added bp base v L w w') (hs : SetB w bp base v L0) (Y : Nat → Prop) : KeepV bp Y w w' := by
  obtain ⟨v', hs', ho, hown⟩ := h
  refine ⟨ho.os, ho.tape, ho.output, ho.size, fun k o hk _ hb => (ho.block k (lt_of_block hk) ?_).trans hk, fun g hg => ?_, fun _ g hg => ?_⟩
  · rintro (e | e)
    · exact hb (.inl e)
    · exact hb (.inr (.inl (by rw [hs.ownAt]; exact e)))
  · rw [hs'.ownAt] at hg; rw [hs.ownAt]; exact hown g hg
  · rw [hs'.ownAt] at hg; exact (hs'.own hg).2
theorem Bad.alloc {bp : Nat} {Y : Nat → Prop} {W : World} (hf : Fit bp Y W) (o : Obj) : ¬ Bad bp Y (W.alloc o) W.heap.size := by
  have hb := below_one W o
  rintro (e | e | e)
  · have := hf.1; omega
  · rw [ownAt_below hb hf.1] at e; have := hf.2 _ (.inr (.inl e)); omega
  · have := hf.2 _ (.inr (.inr e)); omega
/-- The outer and the inner loop of the iterator. -/
structure ItO (bp n0 : Nat) (Y : Nat → Prop) (v : Value) (L : List (Int × Int)) (wr : World) : Prop where
  fit : Fit bp Y wr
  rn : Rn wr (Bad bp Y wr) v L
  size : n0 ≤ wr.heap.size
theorem ItO.keep {bp n0 : Nat} {Y : Nat → Prop} {v : Value} {L : List (Int × Int)} {w w' : World} (h : ItO bp n0 Y v L w) (k : KeepV bp Y w w') : ItO bp n0 Y v L w' := ⟨k.fits h.fit, k.rn h.rn, Nat.le_trans h.size k.size⟩
set_option maxHeartbeats 2000000 in
theorem all1_in (n : Nat) (_hn : 1 ≤ n) (l bs bp N : Nat) (Y : Nat → Prop) (v : Value) (L : List (Int × Int)) (J Jx : List Int → World → Prop)
    (hY : ∀ pre x W, mem L x → J pre W → pre.length < N → YieldAt Fence.wide (n - 1) Tryd.prog l #[.int .i64 x] W fun e W' =>
      (e = .returned (.bool true) ∧ J (pre ++ [x]) W' ∧ KeepV bp Y W W') ∨ (e = .returned (.bool false) ∧ Jx (pre ++ [x]) W'))
    (W : World) (hA : AbidesFrom W.heap.size J) (hs : W.heap[bs]? = some (.cells #[v] 61 (0, 0))) (hf : Fit bp Y W) (hv : Rn W (Bad bp Y W) v L) (hB : Bd L) (hNm : Nrm L) (hN : (ints L).length ≤ N) (hN5 : L.length < 10000) (h0 : J [] W) :
    CallsIn Fence.wide n Tryd.prog 38 #[.func (.yield l) #[] #[], .pointer (some ⟨bs, 0, none⟩)] W fun e W' => (∃ v, e = .returned v) ∧
      ((∃ ys, ys = ints L ∧ J ys W') ∨ (∃ pre, pre <+: ints L ∧ Jx pre W')) := by
  have HY := Lib.hid hY
  have HA := Lib.hid hA
  clear hY hA
  obtain ⟨a, c, rfl⟩ := hv.len
  have hc0 := box_cell hs
  have hO : ItO bp W.heap.size Y (.slice a L.length c) L W := ⟨hf, hv, Nat.le_refl _⟩
  have HBD := Lib.hid hB
  have HNM := Lib.hid hNm
  clear hs hf hv hB hNm
  refine callsIn_of_wp Tryd.func38 rfl trivial ?_ rfl
  simp only [Tryd.ntmps38, List.size_toArray, List.length_cons, List.length_nil, Nat.reduceAdd, Nat.reduceSub, Array.replicate_succ, Array.replicate_zero, List.push_toArray, List.append_toArray, List.nil_append, List.cons_append]
  gi_wp2
  gi_loopw [9] (fun x wr => ∃ k : Nat, x = .int .i64 k ∧ k ≤ L.length ∧ ItO bp W.heap.size Y (.slice a L.length c) L wr ∧ J (ints (L.take k)) wr) (fun x _ => L.length - (intOf x).toNat)
  case atStart => exact ⟨0, rfl, Nat.zero_le _, hO, h0⟩
  case round =>
    obtain ⟨k, rfl, hk, hOr, hJr⟩ := hrel
    clear hO h0 hc0
    by_cases hkl : k < L.length
    · obtain ⟨b, o, c', e, _, hnb, hrow⟩ := hOr.rn.row (by omega)
      cases e
      obtain ⟨hx, hy⟩ := hrow k hkl
      clear hrow
      have hbd := HBD.out L[k] (List.getElem_mem hkl)
      have hle := HNM.out.1 L[k] (List.getElem_mem hkl)
      have HT := Lib.hid (ints_take L k hkl)
      have HS := Lib.hid (ints_split L k hkl)
      have HMEM : Hid (∀ x, L[k].1 ≤ x ∧ x ≤ L[k].2 → mem L x) := fun x h => ⟨L[k], List.getElem_mem hkl, h⟩
      obtain ⟨r1, hr1⟩ : ∃ z, L[k].1 = z := ⟨_, rfl⟩
      obtain ⟨r2, hr2⟩ : ∃ z, L[k].2 = z := ⟨_, rfl⟩
      rw [hr1, hr2] at hbd HT HS hle HMEM
      rw [hr1] at hx
      rw [hr2] at hy
      clear hr1 hr2
      obtain ⟨nr, hnr⟩ : ∃ nr, wr.heap.size = nr := ⟨_, rfl⟩
      obtain ⟨w2, hw2⟩ : ∃ w2, wr.alloc (.cells #[.int .i64 r1, .int .i64 r2] 75) = w2 := ⟨_, rfl⟩
      have hb2 : Below wr.heap.size wr w2 := by rw [← hw2]; exact below_one wr _
      have hO2 := hOr.keep (KeepV.below hb2 hOr.fit.1)
      have hrow2 : w2.heap[nr]? = some (.cells #[.int .i64 r1, .int .i64 r2] 75 (0, 0)) := by rw [← hw2, ← hnr]; exact heap_alloc_new wr _
      have hnb2 : ¬ Bad bp Y w2 nr := by rw [← hw2, ← hnr]; exact Bad.alloc hOr.fit _
      have hJ2 := HA.out _ wr w2 none hJr (grown_of_below hb2) (fun r e => by cases e)
      obtain ⟨d0, d1⟩ := pair_cells hrow2
      gi_wp2
      gi_loopw [5] (fun x wi => ∃ m : Nat, x = .int .i64 (r1 + m) ∧ r1 + m ≤ r2 + 1 ∧ ItO bp W.heap.size Y (.slice (some ⟨b, o, none⟩) L.length c) L wi ∧ wi.heap[nr]? = some (.cells #[.int .i64 r1, .int .i64 r2] 75 (0, 0)) ∧ ¬ Bad bp Y wi nr ∧ J (ints (L.take k) ++ seg r1 m) wi) (fun x _ => (r2 + 1 - intOf x).toNat)
      case atStart => exact ⟨0, by simp, by simp; omega, hO2, hrow2, hnb2, by rw [seg_zero, List.append_nil]; exact hJ2⟩
      case round =>
        obtain ⟨m, rfl, hm, hO3, hrow3, hnb3, hJ3⟩ := hrel
        obtain ⟨e0, e1⟩ := pair_cells hrow3
        clear hO2 hrow2 hnb2 hJ2 d0 d1
        by_cases hml : r1 + m ≤ r2
        · have hlen : (ints (L.take k) ++ seg r1 m).length < N := by
            have h1 := congrArg List.length HS.out
            simp only [List.length_append, seg_length] at h1 ⊢
            omega
          obtain ⟨fn, tmps, assign, body, hyy, hR⟩ := HY.out _ (r1 + m) wr (HMEM.out _ ⟨by omega, hml⟩) hJ3 hlen
          have HR := Lib.hid hR
          clear hR
          gi_wp2
          refine HR.out.mono ?_
          clear HR hyy
          rintro er W3 (⟨rfl, hJ5, hk5⟩ | ⟨rfl, hJx5⟩)
          · gi_wp2
            go_roundw
            case rel => exact ⟨m + 1, by simp; omega, by simp; omega, hO3.keep hk5, hk5.block nr _ hrow3 rfl hnb3, hk5.still (lt_of_block hrow3) hnb3, by rw [seg_succ, ← List.append_assoc]; exact hJ5⟩
            case measure => simp [intOf]; omega
          · gi_wp2
            refine bodyPost_ret (results_none rfl _ _ _) rfl ?_
            refine ⟨⟨_, rfl⟩, .inr ⟨_, ⟨seg (r1 + m + 1) ((r2 + 1 - r1).toNat - (m + 1)) ++ ints (L.drop (k + 1)), ?_⟩, hJx5⟩⟩
            rw [HS.out]
            have : seg r1 (r2 + 1 - r1).toNat = seg r1 (m + 1) ++ seg (r1 + m + 1) ((r2 + 1 - r1).toNat - (m + 1)) := by
              unfold seg
              apply List.ext_getElem
              · simp; omega
              · intro i h1 h2
                simp only [List.getElem_map, List.getElem_range, List.getElem_append, List.length_map, List.length_range]
                split
                · rfl
                · omega
            rw [this, seg_succ]
            simp
        · have hend : m = (r2 + 1 - r1).toNat := by omega
          have hdec : decide (r1 + (m : Int) ≤ r2) = false := by simpa using hml
          gi_wp2
          go_roundw
          case rel => exact ⟨k + 1, num_succ k, by omega, hO3, by rw [HT.out, ← hend]; exact hJ3⟩
          case measure => simp [intOf]; omega
    · obtain rfl : k = L.length := by omega
      rw [List.take_length] at hJr
      gi_wp2
      go_end0
      exact ⟨⟨_, rfl⟩, .inl ⟨_, rfl, hJr⟩⟩
end Go.Proofs.YtooaamepflkgnaaDoor
