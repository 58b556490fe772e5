/- Contract of regex.Lit. -/
import Derived.Test.YtnjcefjcpmjdiaaE7
import Derived.Test.YtnjcefjcpmjdiaaB1
set_option maxRecDepth 20000
namespace Go.Proofs.Ytnjcefjcpmjdiaa
open Go.RowKit

theorem range_one (c : UInt8) : ofP (rangeP c.toNat c.toNat) = put 0 c.toNat := by
  apply bv_ext
  intro b hb
  have hc : c.toNat < 256 := c.toNat_lt
  rw [get_ofP _ _ hb, get_put _ _ _ hc]
  unfold rangeP
  by_cases h : b = c.toNat
  · subst h; simp
  · have : (decide (c.toNat ≤ b) && decide (b ≤ c.toNat)) = false := by simp; omega
    rw [this]; simp [h]
theorem range_byte (c : UInt8) (w : World) : Calls Try.prog 39 #[.int .u8 c.toNat, .int .u8 c.toNat] w fun e w' => e = .returned (.agg #[.int .u64 (wd (put 0 c.toNat) 0), .int .u64 (wd (put 0 c.toNat) 1), .int .u64 (wd (put 0 c.toNat) 2), .int .u64 (wd (put 0 c.toNat) 3)]) ∧ Below w.heap.size w w' := by
  rw [← range_one]; exact range_any _ _ c.toNat_lt c.toNat_lt w
set_option maxHeartbeats 1000000 in
theorem copies_nil (a : Option Addr) (cap : Nat) (w : World) : Calls Try.prog 50 #[.slice a 0 cap] w fun e w' => e = .returned (.slice none 0 0) ∧ Below w.heap.size w w' := by
  go_enter Try.func50, Try.ntmps50
  go_wp2_with fail
  go_ret
  exact ⟨rfl, Below.refl _ _⟩
set_option maxHeartbeats 1000000 in
theorem node_nil (op : Int) (w : World) : Calls Try.prog 38 #[.int .i64 op, .slice none 0 0] w fun e w' => e = .returned (.agg #[.int .i64 (Pat.mk op 0 0 0 []).op, .int .u64 (wd (Pat.mk op 0 0 0 []).set 0), .int .u64 (wd (Pat.mk op 0 0 0 []).set 1), .int .u64 (wd (Pat.mk op 0 0 0 []).set 2), .int .u64 (wd (Pat.mk op 0 0 0 []).set 3), .int .i64 (Pat.mk op 0 0 0 []).lo, .int .i64 (Pat.mk op 0 0 0 []).hi, .slice none 0 0]) ∧ Below w.heap.size w w' := by
  have hal := (Below.refl w.heap.size w).alloc (Nat.le_refl _) (.cells #[.int .i64 0, .int .u64 0, .int .u64 0, .int .u64 0, .int .u64 0, .int .i64 0, .int .i64 0, .slice none 0 0] 28)
  have hbx0 := Box.new w #[.int .i64 0, .int .u64 0, .int .u64 0, .int .u64 0, .int .u64 0, .int .i64 0, .int .i64 0, .slice none 0 0] rfl
  go_enter Try.func38, Try.ntmps38
  go_wp2_with (go_at_call 50; refine (copies_nil none 0 _).mono ?_; rintro e w2 ⟨rfl, hb2⟩; have hbx2 := hbx0.below hb2; obtain ⟨z0, z1, z2, z3, z4, z5, z6, z7⟩ := hbx2.cells; obtain ⟨q0, q1, q2, q3, q4, q5, q6, q7⟩ := hbx2.frees)
  refine bodyPost_ret (v := (.agg #[.int .i64 (Pat.mk op 0 0 0 []).op, .int .u64 (wd (Pat.mk op 0 0 0 []).set 0), .int .u64 (wd (Pat.mk op 0 0 0 []).set 1), .int .u64 (wd (Pat.mk op 0 0 0 []).set 2), .int .u64 (wd (Pat.mk op 0 0 0 []).set 3), .int .i64 (Pat.mk op 0 0 0 []).lo, .int .i64 (Pat.mk op 0 0 0 []).hi, .slice none 0 0])) (by simp [results, Try.results38, go_sem, Pat.op, Pat.set, Pat.lo, Pat.hi, wd_none, *]) rfl ⟨rfl, ?_⟩
  exact below_set8 (below_step hal hb2) (Nat.le_refl _) _ _ _ _ _ _ _ _
set_option maxHeartbeats 4000000 in
theorem lit_any (s : ByteArray) (w : World) (hlen : s.size ≤ 1000) :
    Calls Try.prog 11 #[.string s] w fun e w' => ∃ ks, e = .returned (.agg #[.int .i64 (litP s).op, .int .u64 (wd (litP s).set 0), .int .u64 (wd (litP s).set 1), .int .u64 (wd (litP s).set 2), .int .u64 (wd (litP s).set 3), .int .i64 (litP s).lo, .int .i64 (litP s).hi, ks]) ∧ KidsN w' w.heap.size (litP s).kids ks ∧ Below w.heap.size w w' := by
  have hal := (Below.refl w.heap.size w).alloc (Nat.le_refl _) (.cells #[.int .i64 0, .int .u64 0, .int .u64 0, .int .u64 0, .int .u64 0, .int .i64 0, .int .i64 0, .slice none 0 0] 28)
  have hbx0 := Box.new w #[.int .i64 0, .int .u64 0, .int .u64 0, .int .u64 0, .int .u64 0, .int .i64 0, .int .i64 0, .slice none 0 0] rfl
  go_enter Try.func11, Try.ntmps11
  go_wp2_with (go_at_call 38; refine (node_nil 1 _).mono ?_; rintro e w2 ⟨rfl, hb2⟩; have hz2 := hbx0.below hb2; have hlz2 := hz2.lt)
  have hbw2 := below_step hal hb2
  go_loopw [4] (fun i wr => ∃ (L : List (Pat × Value)) (v : Value), L.length ≤ s.size ∧ i = .int .i64 L.length ∧ Hid (L.map Prod.fst = (s.data.toList.take L.length).map byteP) ∧ NRow wr (w2.heap.size + 1) v L ∧ Box wr w2.heap.size #[.int .i64 (Pat.mk 1 0 0 0 []).op, .int .u64 (wd (Pat.mk 1 0 0 0 []).set 0), .int .u64 (wd (Pat.mk 1 0 0 0 []).set 1), .int .u64 (wd (Pat.mk 1 0 0 0 []).set 2), .int .u64 (wd (Pat.mk 1 0 0 0 []).set 3), .int .i64 (Pat.mk 1 0 0 0 []).lo, .int .i64 (Pat.mk 1 0 0 0 []).hi, v] ∧ Box wr w.heap.size #[.int .i64 0, .int .u64 0, .int .u64 0, .int .u64 0, .int .u64 0, .int .i64 0, .int .i64 0, .slice none 0 0] ∧ Below w.heap.size w wr) (fun i _ => s.size - (intOf i).toNat)
  case atStart => exact ⟨[], .slice none 0 0, by simp, rfl, rfl, NRow.nil _ _, Box.new _ _ rfl, hz2.alloc _, alloc_below hbw2 _⟩
  case round =>
    obtain ⟨L, v, hkl, rfl, HL, hrow, hx, hz, hbw⟩ := hrel
    obtain ⟨a', cap', rfl⟩ := hrow.form
    have hlx := hx.lt
    have c7 := hx.cell 7
    by_cases hlt : L.length < s.size
    · have HT : Hid ((s.data.toList.take (L.length + 1)).map byteP = (s.data.toList.take L.length).map byteP ++ [byteP s[L.length]]) := by rw [Hid, take_snoc s _ hlt]; simp
      go_wp2_with fail
      go_region_law (first
        | (go_simp; go_at_call 39; refine (range_byte _ _).mono ?_; rintro e w3 ⟨rfl, hb3⟩; have hb3' : Below wr.heap.size wr w3 := (Below.refl wr.heap.size wr).drew.trans hb3; have hrow3 := hrow.below hb3'; have hx3 := hx.below hb3'; have hz3 := hz.below hb3'; have hlx3 := hx3.lt; obtain ⟨c03, c13, c23, c33, c43, c53, c63, c73⟩ := hx3.cells)
        | (go_simp; go_at_call 14; refine (set_any _ _).mono ?_; rintro e w4 ⟨js, rfl, hj4, hb4⟩; obtain ⟨aj, cj, rfl⟩ := hj4.kids.len; have hrow4 := hrow3.below hb4; have hx4 := hx3.below hb4; have hz4 := hz3.below hb4; have hlx4 := hx4.lt; obtain ⟨c04, c14, c24, c34, c44, c54, c64, c74⟩ := hx4.cells)
        | (refine step_push (.tmp 13) (.tmp 22) rfl rfl w4 (w2.heap.size + 1) _ L (byteP s[L.length]) aj 0 cj hrow4 (Kids.nil _ _ _) (fun B e => Kids.nil _ _ _) (by omega) (by omega) rfl rfl ?_; intro g cap3 w5 hrow5 hgrow; have hx5 := (hx4.alloc (.cells #[.int .i64 (byteP s[L.length]).op, .int .u64 (wd (byteP s[L.length]).set 0), .int .u64 (wd (byteP s[L.length]).set 1), .int .u64 (wd (byteP s[L.length]).set 2), .int .u64 (wd (byteP s[L.length]).set 3), .int .i64 (byteP s[L.length]).lo, .int .i64 (byteP s[L.length]).hi, .slice aj 0 cj] 28)).grown hgrow (own_not hrow4.1 (by omega)); have q7 := hx5.free 7; have c75 := hx5.cell 7))
      all_goals
        have hz5 := (hz4.alloc (.cells #[.int .i64 (byteP s[L.length]).op, .int .u64 (wd (byteP s[L.length]).set 0), .int .u64 (wd (byteP s[L.length]).set 1), .int .u64 (wd (byteP s[L.length]).set 2), .int .u64 (wd (byteP s[L.length]).set 3), .int .i64 (byteP s[L.length]).lo, .int .i64 (byteP s[L.length]).hi, .slice aj 0 cj] 28)).grown hgrow (own_not hrow4.1 (by omega))
        have hb5 : Below w.heap.size w w5 := below_grown (alloc_below (below_step (below_step hbw hb3') hb4) _) (hrow4.1.alloc _) hgrow (by omega)
        clear c03 c13 c23 c33 c43 c53 c63 c73 c04 c14 c24 c34 c44 c54 c64 c74 hx3 hx4 hz3 hz4 hrow3 hrow4 hj4
        go_wp2_with fail
        go_roundw
        case rel =>
          refine ⟨L ++ [(byteP s[L.length], .slice aj 0 cj)], .slice (some ⟨g, 0, none⟩) (L.length + 1) cap3, by simp; omega, by simp, ?_, hrow5.low (by omega) _, hx5.set7 _, hz5.other (a := ⟨w2.heap.size, 7, none⟩) (by show w.heap.size ≠ w2.heap.size; omega) _, hb5.setCell (p := ⟨w2.heap.size, 7, none⟩) (by show w.heap.size ≤ w2.heap.size; omega) _⟩
          rw [Hid, List.length_append, List.map_append, HL.out]; exact HT.out.symm
        case measure => simp [intOf]; omega
    · have hLs : L.length = s.size := by omega
      have HK : Hid (KidsN wr (w2.heap.size + 1) (litP s).kids (.slice a' L.length cap')) := by
        have := hrow.kidsN
        rw [HL.out, hLs, List.take_of_length_le (by simp)] at this
        rw [hLs]; exact this
      clear hLs c7
      obtain ⟨c0, c1, c2, c3, c4, c5, c6, c7⟩ := hx.cells
      obtain ⟨d0, d1, d2, d3, d4, d5, d6, d7⟩ := hz.cells
      obtain ⟨f0, f1, f2, f3, f4, f5, f6, f7⟩ := hz.frees
      go_wp2_with fail
      refine bodyPost_ret (v := (.agg #[.int .i64 (litP s).op, .int .u64 (wd (litP s).set 0), .int .u64 (wd (litP s).set 1), .int .u64 (wd (litP s).set 2), .int .u64 (wd (litP s).set 3), .int .i64 (litP s).lo, .int .i64 (litP s).hi, .slice a' L.length cap'])) (by simp [results, Try.results11, go_sem, litP, Pat.op, Pat.set, Pat.lo, Pat.hi, wd_none, *]) rfl ⟨_, rfl, ?_, ?_⟩
      · exact (HK.out.set8 (by omega) _ _ _ _ _ _ _ _).mono (by omega)
      · exact below_set8 hbw (by omega) _ _ _ _ _ _ _ _
end Go.Proofs.Ytnjcefjcpmjdiaa
