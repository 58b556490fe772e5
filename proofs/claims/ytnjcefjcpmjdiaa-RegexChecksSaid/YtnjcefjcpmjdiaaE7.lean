/- Contract of regex.Back, and slices.Reverse under it. -/
import Derived.Test.YtnjcefjcpmjdiaaE1
import Derived.Test.YtnjcefjcpmjdiaaD8
import Derived.Test.YtnjcefjcpmjdiaaE8
import Derived.Deep.RegionLaw
import Derived.Deep.AppendLies
set_option maxRecDepth 20000
namespace Go.Proofs.Ytnjcefjcpmjdiaa
open Go.RowKit

theorem map_take (l : List Pat) (k : Nat) (h : k < l.length) : (l.take (k + 1)).map Pat.back = (l.take k).map Pat.back ++ [l[k].back] := by
  rw [List.take_succ_eq_append_getElem h, List.map_append]; rfl
theorem NRow.low {w : World} {base b i : Nat} {v : Value} {L : List (Pat × Value)} (h : NRow w base v L) (hb : b < base) (u : Value) : NRow (w.setCell ⟨b, i, none⟩ u) base v L :=
  ⟨ownsRow_setCell_below h.1 (a := ⟨b, i, none⟩) hb u, fun x hx => (h.2 x hx).keep fun c h1 h2 _ => ⟨Below.heap_setCell _ _ _ _ (by show c ≠ b; omega), h1, h2⟩⟩
/-- An append of one node, at a step of a region that draws. -/
theorem step_push {ops : Array Oper} {o : Oper} {a : Act} {K : Act → World → Prop} {Q : Exit → Act → World → Prop} {E : Prop} (s x : Operand) (hgd : o.guard = none) (ho : o.op = .call { callee := .builtin .append, args := #[s, x], argTypes := #[26, 26] })
    (W : World) (base : Nat) (v : Value) (L : List (Pat × Value)) (p : Pat) (b : Option Addr) (l c : Nat) (hrow : NRow W base v L) (hp : KidsN W base p.kids (.slice b l c)) (hpx : ∀ B, v.ownBlock = some B → Kids (mask W base (some B)) p.kids (.slice b l c)) (hlen : L.length < 100000) (hbase : base ≤ W.heap.size)
    (hs : a.eval s = v) (hx : a.eval x = .slice (some ⟨W.heap.size, 0, none⟩) 1 1)
    (h : ∀ g cap w', NRow w' base (.slice (some ⟨g, 0, none⟩) (L.length + 1) cap) (L ++ [(p, .slice b l c)]) → (W.alloc (.cells #[.int .i64 p.op, .int .u64 (wd p.set 0), .int .u64 (wd p.set 1), .int .u64 (wd p.set 2), .int .u64 (wd p.set 3), .int .i64 p.lo, .int .i64 p.hi, .slice b l c] 28)).grownBy w' v.ownBlock → K (a.put o.dst (.slice (some ⟨g, 0, none⟩) (L.length + 1) cap)) w') :
    if Region.wanted o (yielded ops a.tmps) = true then Oper.wp Try.prog o a (W.alloc (.cells #[.int .i64 p.op, .int .u64 (wd p.set 0), .int .u64 (wd p.set 1), .int .u64 (wd p.set 2), .int .u64 (wd p.set 3), .int .i64 p.lo, .int .i64 p.hi, .slice b l c] 28)) K Q else E := by
  obtain ⟨i0, hi, hy0, hy1, hy2⟩ := info_parts infoNode
  have hal : Below W.heap.size W (W.alloc (.cells #[.int .i64 p.op, .int .u64 (wd p.set 0), .int .u64 (wd p.set 1), .int .u64 (wd p.set 2), .int .u64 (wd p.set 3), .int .i64 p.lo, .int .i64 p.hi, .slice b l c] 28)) := (Below.refl _ _).alloc (Nat.le_refl _) _
  refine step_append_lies _ hgd s x 26 ho base 28 i0 (.agg #[.int .i64 0, .int .u64 0, .int .u64 0, .int .u64 0, .int .u64 0, .int .i64 0, .int .i64 0, .slice none 0 0]) 8 80 Try.underlying26 hi hy0 hy1 hy2 rfl (by decide) v L.length (flatN L) hs (hrow.1.alloc _) ⟨W.heap.size, 0, none⟩ 1 1 [.int .i64 p.op, .int .u64 (wd p.set 0), .int .u64 (wd p.set 1), .int .u64 (wd p.set 2), .int .u64 (wd p.set 3), .int .i64 p.lo, .int .i64 p.hi, .slice b l c] hx rfl (cell_eight_new W p (.slice b l c) 28) (by simp [Value.oneCell']) (by omega) (by unfold maxLen; omega) (by omega) (by rw [World.size_alloc]; omega) (W.heap.size + 1) (World.size_alloc _ _) ?_
  intro g cap w' hown hg hat _
  refine h g cap w' ?_ hg
  refine (hrow.below hal).snoc hown hg ?_ ?_
  · rcases hat with h | h
    · exact .inl h.symm
    · exact .inr (by rw [World.size_alloc, ← h]; rfl)
  · cases hv : v.ownBlock with
    | none => exact hp.below hal
    | some B => exact (hpx B hv).masked_below hal
set_option maxHeartbeats 4000000 in
theorem back_any : ∀ (n : Nat) (p : Pat) (ks : Value) (w : World), p.size < n → n ≤ 100000 → Kids w p.kids ks →
    Calls Try.prog 29 #[(.agg #[.int .i64 p.op, .int .u64 (wd p.set 0), .int .u64 (wd p.set 1), .int .u64 (wd p.set 2), .int .u64 (wd p.set 3), .int .i64 p.lo, .int .i64 p.hi, ks])] w fun e w' => ∃ ks', e = .returned (.agg #[.int .i64 p.back.op, .int .u64 (wd p.back.set 0), .int .u64 (wd p.back.set 1), .int .u64 (wd p.back.set 2), .int .u64 (wd p.back.set 3), .int .i64 p.back.lo, .int .i64 p.back.hi, ks']) ∧ KidsN w' w.heap.size p.back.kids ks' ∧ Below w.heap.size w w' := by
  intro n
  induction n with
  | zero => intro p ks w h; omega
  | succ n ih =>
    intro p ks w hn hmax hk
    have hse := size_eq p
    have hlen := length_sizes p.kids
    have IH := Lib.hid ih
    clear ih
    obtain ⟨a, cap, rfl⟩ := hk.len
    obtain ⟨i0, hi, hy0, hy1, hy2⟩ := info_parts infoNode
    have HSM : Hid (∀ k (h : k < p.kids.length), p.kids[k].size < n) := fun k h => by have := size_kid p.kids k h; omega
    have hsm : p.kids.length < 100000 := by omega
    have HBK : Hid (p.back = .mk p.op p.set p.lo p.hi (bif p.op == 1 then (p.kids.map Pat.back).reverse else p.kids.map Pat.back)) := back_eq p
    have HMT := Lib.hid (map_take p.kids)
    generalize hkk : p.kids = kids at *
    clear hse hlen hkk
    go_enter Try.func29, Try.ntmps29
    go_wp2_with fail
    go_loopw [11] (fun i wr => ∃ (L : List (Pat × Value)) (v : Value), L.length ≤ kids.length ∧ i = .int .i64 L.length ∧ Hid (L.map Prod.fst = (kids.take L.length).map Pat.back) ∧ NRow wr (w.heap.size + 1 + 1) v L ∧ Box wr w.heap.size #[.int .i64 p.op, .int .u64 (wd p.set 0), .int .u64 (wd p.set 1), .int .u64 (wd p.set 2), .int .u64 (wd p.set 3), .int .i64 p.lo, .int .i64 p.hi, v] ∧ Box wr (w.heap.size + 1) z8 ∧ Below w.heap.size w wr) (fun i _ => kids.length - (intOf i).toNat)
    case atStart => exact ⟨[], .slice none 0 0, by simp, rfl, rfl, NRow.nil _ _, (Box.new _ _ rfl).alloc _, Box.new _ _ (by simp), below2 _ _ _⟩
    case round =>
      obtain ⟨L, v, hkl, rfl, HL, hrow, hx, hz, hbw⟩ := hrel
      obtain ⟨a', cap', rfl⟩ := hrow.form
      have hlz := hz.lt
      obtain ⟨c0, c1, c2, c3, c4, c5, c6, c7⟩ := hx.cells
      by_cases hlt : L.length < kids.length
      · obtain ⟨b1, o1, cc1, e1, hr1⟩ := hk.row (by omega)
        cases e1
        obtain ⟨ks', hks, e0, e1, e2, e3, e4, e5, e6, e7⟩ := ((hr1.below hbw).at L.length hlt).load
        have HS1 := Lib.hid (HSM.out _ hlt)
        have HT := Lib.hid (HMT.out _ hlt)
        generalize kids[L.length] = p' at *
        obtain ⟨ka, kc, rfl⟩ := hks.len
        go_wp2_with fail
        obtain ⟨w1, hw1⟩ : ∃ w1, w1 = wr.alloc (.cells #[.int .i64 p'.op, .int .u64 (wd p'.set 0), .int .u64 (wd p'.set 1), .int .u64 (wd p'.set 2), .int .u64 (wd p'.set 3), .int .i64 p'.lo, .int .i64 p'.hi, .slice ka p'.kids.length kc] 28) := ⟨_, rfl⟩
        have hal : Below wr.heap.size wr w1 := by rw [hw1]; exact (Below.refl _ _).alloc (Nat.le_refl _) _
        have hbx1 : Box w1 wr.heap.size #[.int .i64 p'.op, .int .u64 (wd p'.set 0), .int .u64 (wd p'.set 1), .int .u64 (wd p'.set 2), .int .u64 (wd p'.set 3), .int .i64 p'.lo, .int .i64 p'.hi, .slice ka p'.kids.length kc] := by rw [hw1]; exact Box.new _ _ rfl
        rw [← hw1]
        have hx1 := hx.below hal
        have hz1 := hz.below hal
        have hrow1 := hrow.below hal
        have hks1 := hks.below hal
        have hbw1 := below_step hbw hal
        clear hw1 c0 c1 c2 c3 c4 c5 c6 c7 e0 e1 e2 e3 e4 e5 e6 e7
        have hlw := hz1.lt
        have c7 := hx1.cell 7
        obtain ⟨e0, e1, e2, e3, e4, e5, e6, e7⟩ := hbx1.cells
        go_region_law (first
          | (go_simp; go_at_call 29; refine (IH.out p' _ _ HS1.out (by omega) hks1.drew).mono ?_; rintro e w2 ⟨ks2, rfl, hk2, hb2⟩; obtain ⟨a2, cap2, rfl⟩ := hk2.kids.len; have hk2' : KidsN w2 w1.heap.size p'.back.kids (.slice a2 p'.back.kids.length cap2) := hk2; have hb2' : Below w1.heap.size w1 w2 := (Below.refl w1.heap.size w1).drew.trans hb2; have hrow2 := hrow1.below hb2'; have hx2 := hx1.below hb2'; have hz2 := hz1.below hb2'; have hlz2 := hz2.lt; have hlx2 := hx2.lt; obtain ⟨c02, c12, c22, c32, c42, c52, c62, c72⟩ := hx2.cells)
          | (refine step_push (.tmp 16) (.tmp 19) rfl rfl w2 (w.heap.size + 1 + 1) _ L p'.back a2 _ cap2 hrow2 (hk2'.mono (by omega)) (fun B e => hk2'.masked (by omega) (fun b e2 => by cases e2; have := (hrow1.1.lt B e).2; omega)) (by omega) (by omega) rfl rfl ?_; intro g cap3 w3 hrow3 hgrow; have hx3 := (hx2.alloc (.cells #[.int .i64 p'.back.op, .int .u64 (wd p'.back.set 0), .int .u64 (wd p'.back.set 1), .int .u64 (wd p'.back.set 2), .int .u64 (wd p'.back.set 3), .int .i64 p'.back.lo, .int .i64 p'.back.hi, .slice a2 p'.back.kids.length cap2] 28)).grown hgrow (own_not hrow2.1 (by omega)); have q7 := hx3.free 7; have c73 := hx3.cell 7))
        all_goals
          have hz3 := (hz2.alloc (.cells #[.int .i64 p'.back.op, .int .u64 (wd p'.back.set 0), .int .u64 (wd p'.back.set 1), .int .u64 (wd p'.back.set 2), .int .u64 (wd p'.back.set 3), .int .i64 p'.back.lo, .int .i64 p'.back.hi, .slice a2 p'.back.kids.length cap2] 28)).grown hgrow (own_not hrow2.1 (by omega))
          have hb3 : Below w.heap.size w w3 := below_grown (alloc_below (below_step hbw1 hb2') _) (hrow2.1.alloc _) hgrow (by omega)
          clear c02 c12 c22 c32 c42 c52 c62 c72 hx2 hz2 hrow2 hk2 hk2'
          go_wp2_with fail
          go_roundw
          case rel =>
            refine ⟨L ++ [(p'.back, .slice a2 p'.back.kids.length cap2)], .slice (some ⟨g, 0, none⟩) (L.length + 1) cap3, by simp; omega, by simp, ?_, hrow3.low (by omega) _, hx3.set7 _, hz3.other (a := ⟨w.heap.size, 7, none⟩) (by show w.heap.size + 1 ≠ w.heap.size; omega) _, hb3.setCell (p := ⟨w.heap.size, 7, none⟩) (Nat.le_refl _) _⟩
            rw [Hid, List.length_append, List.map_append, HL.out]; exact HT.out.symm
          case measure => simp [intOf]; omega
      · have hLs : L.length = kids.length := by omega
        have HM : Hid (L.map Prod.fst = kids.map Pat.back) := by have := HL.out; rw [hLs, List.take_length] at this; exact this
        obtain ⟨f0, f1, f2, f3, f4, f5, f6, f7⟩ := hx.frees
        unfold z8 at hz
        obtain ⟨d0, d1, d2, d3, d4, d5, d6, d7⟩ := hz.cells
        obtain ⟨g0, g1, g2, g3, g4, g5, g6, g7⟩ := hz.frees
        cases hb1 : p.op == 1
        · have HBK2 : Hid (p.back = .mk p.op p.set p.lo p.hi (kids.map Pat.back)) := by rw [Hid, HBK.out, hb1]; rfl
          have HK : Hid (KidsN wr (w.heap.size + 1 + 1) (kids.map Pat.back) (.slice a' L.length cap')) := by rw [Hid, ← HM.out]; exact hrow.kidsN
          clear hLs
          go_wp2_with fail
          refine bodyPost_ret (v := (.agg #[.int .i64 p.op, .int .u64 (wd p.set 0), .int .u64 (wd p.set 1), .int .u64 (wd p.set 2), .int .u64 (wd p.set 3), .int .i64 p.lo, .int .i64 p.hi, .slice a' L.length cap'])) (by simp [results, Try.results29, go_sem, *]) rfl ⟨.slice a' L.length cap', ?_, ?_, below_set8 hbw (by omega) _ _ _ _ _ _ _ _⟩
          · rw [HBK2.out]; rfl
          · rw [HBK2.out]; exact (HK.out.set8 (by omega) _ _ _ _ _ _ _ _).mono (by omega)
        · have HBK2 : Hid (p.back = .mk p.op p.set p.lo p.hi (kids.map Pat.back).reverse) := by rw [Hid, HBK.out, hb1]; rfl
          clear hLs HL HMT HSM IH
          by_cases h0 : 0 < L.length
          · obtain ⟨g, cap4, e, hg1, hg2, _⟩ := hrow.block h0
            cases e
            go_wp2_with (go_at_call 44; refine (reverse_any _ g _ L _ (by omega) h0 hrow).mono ?_; rintro e w4 ⟨rfl, hrow4, hg4⟩; have hx4 := hx.grown hg4 (fun e => by cases e; omega); have hz4 := hz.grown hg4 (fun e => by cases e; omega); obtain ⟨x0, x1, x2, x3, x4, x5, x6, x7⟩ := hx4.cells; obtain ⟨y0, y1, y2, y3, y4, y5, y6, y7⟩ := hz4.cells; obtain ⟨t0, t1, t2, t3, t4, t5, t6, t7⟩ := hz4.frees)
            have hb4 : Below w.heap.size w w4 := below_grown hbw hrow.1 hg4 (by omega)
            have HK : Hid (KidsN w4 (w.heap.size + 1 + 1) (kids.map Pat.back).reverse (.slice (some ⟨g, 0, none⟩) L.length cap')) := by
              have h5 := hrow4.kidsN
              rw [List.map_reverse, HM.out] at h5; exact h5
            refine bodyPost_ret (v := (.agg #[.int .i64 p.op, .int .u64 (wd p.set 0), .int .u64 (wd p.set 1), .int .u64 (wd p.set 2), .int .u64 (wd p.set 3), .int .i64 p.lo, .int .i64 p.hi, .slice (some ⟨g, 0, none⟩) L.length cap'])) (by simp [results, Try.results29, go_sem, *]) rfl ⟨.slice (some ⟨g, 0, none⟩) L.length cap', ?_, ?_, below_set8 hb4 (by omega) _ _ _ _ _ _ _ _⟩
            · rw [HBK2.out]; rfl
            · rw [HBK2.out]; exact (HK.out.set8 (by omega) _ _ _ _ _ _ _ _).mono (by omega)
          · have hL0 : L = [] := List.length_eq_zero_iff.1 (by omega)
            subst hL0
            have HK0 : Hid ((kids.map Pat.back).reverse = []) := by rw [Hid, ← HM.out]; rfl
            go_wp2_with (go_at_call 44; refine (reverse_nil a' cap' _).mono ?_; rintro e w4 ⟨rfl, hb4⟩; have hx4 := hx.below hb4; have hz4 := hz.below hb4; obtain ⟨x0, x1, x2, x3, x4, x5, x6, x7⟩ := hx4.cells; obtain ⟨y0, y1, y2, y3, y4, y5, y6, y7⟩ := hz4.cells; obtain ⟨t0, t1, t2, t3, t4, t5, t6, t7⟩ := hz4.frees)
            refine bodyPost_ret (v := (.agg #[.int .i64 p.op, .int .u64 (wd p.set 0), .int .u64 (wd p.set 1), .int .u64 (wd p.set 2), .int .u64 (wd p.set 3), .int .i64 p.lo, .int .i64 p.hi, .slice a' 0 cap'])) (by simp [results, Try.results29, go_sem, *]) rfl ⟨.slice a' 0 cap', ?_, ?_, below_set8 (below_step hbw hb4) (by omega) _ _ _ _ _ _ _ _⟩
            · rw [HBK2.out]; rfl
            · rw [HBK2.out, HK0.out]; exact Kids.nil _ _ _
end Go.Proofs.Ytnjcefjcpmjdiaa
