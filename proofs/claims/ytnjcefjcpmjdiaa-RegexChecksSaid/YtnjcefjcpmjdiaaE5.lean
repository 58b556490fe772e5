/- Contracts of regex: the walk of a traversal that goes on always; Size, Bytes. -/
import Derived.Test.YtnjcefjcpmjdiaaE4
set_option maxRecDepth 20000
namespace Go.Proofs.Ytnjcefjcpmjdiaa
open Go.RowKit

set_option maxHeartbeats 4000000 in
theorem walk_any : ∀ (n : Nat) (p : Pat) (ks : Value) (b N d : Nat) (s : BitVec 256) (w0 w : World), p.size < n → n ≤ 100000 → N + p.size < 500000 → d + n < 500000 → Kids w0 p.kids ks → Below w0.heap.size w0 w → w0.heap.size ≤ b → Trav w b N d s →
    Calls Try.prog 42 #[.pointer (some ⟨b, 0, none⟩), (.agg #[.int .i64 p.op, .int .u64 (wd p.set 0), .int .u64 (wd p.set 1), .int .u64 (wd p.set 2), .int .u64 (wd p.set 3), .int .i64 p.lo, .int .i64 p.hi, ks]), .func (.func 43) #[] #[]] w fun e w' => e = .returned (.bool true) ∧ Trav w' b (N + p.size : Nat) d (s ||| p.bytes) ∧ Off b w w' := by
  intro n
  induction n with
  | zero => intro p ks b N d s w0 w h; omega
  | succ n ih =>
    intro p ks b N d s w0 w hn hmax hN hd hk hb0 hbb ht
    have hse := size_eq p
    have hlen := length_sizes p.kids
    have IH := Lib.hid ih
    clear ih
    have hlt := ht.lt
    obtain ⟨a, cap, rfl⟩ := hk.len
    have HSZ : Hid (∀ k (h : k < p.kids.length), Pat.sizes (p.kids.take (k + 1)) = Pat.sizes (p.kids.take k) + p.kids[k].size ∧ p.kids[k].size < n ∧ N + 1 + (Pat.sizes (p.kids.take k) + p.kids[k].size) ≤ N + p.size) := fun k h => by
      have h1 := sizes_at p.kids k h
      have h2 := size_kid p.kids k h
      have h3 := sizes_take p.kids (k + 1)
      exact ⟨h1, by omega, by omega⟩
    have HBY : Hid (∀ k (h : k < p.kids.length), bytesL (p.kids.take (k + 1)) = bytesL (p.kids.take k) ||| p.kids[k].bytes) := fun k h => bytesL_take p.kids k h
    have HBF : Hid (p.bytes = own0 p ||| bytesL p.kids) := bytes_eq p
    have HSF : Hid (N + p.size = N + 1 + Pat.sizes p.kids) := by rw [Hid, hse]; omega
    have hsm : p.kids.length < 100000 := by omega
    have HNB := Lib.hid hN
    have hN1 : N < 1000000 := by omega
    have hd1 : d + 1 < 1000000 := by omega
    clear hse hlen hN hn
    generalize hkk : p.kids = kids at *
    clear hkk
    go_enter Try.func42, Try.ntmps42
    go_wp2_with fail
    obtain ⟨w1, hw1⟩ : ∃ w1, w1 = (w.alloc (.cells #[.int .i64 p.op, .int .u64 (wd p.set 0), .int .u64 (wd p.set 1), .int .u64 (wd p.set 2), .int .u64 (wd p.set 3), .int .i64 p.lo, .int .i64 p.hi, .slice a kids.length cap] 28)) := ⟨_, rfl⟩
    have hbx1 : Box w1 w.heap.size #[.int .i64 p.op, .int .u64 (wd p.set 0), .int .u64 (wd p.set 1), .int .u64 (wd p.set 2), .int .u64 (wd p.set 3), .int .i64 p.lo, .int .i64 p.hi, .slice a kids.length cap] := by rw [hw1]; exact Box.new _ _ rfl
    have ht1 : Trav w1 b N d s := by rw [hw1]; exact ht.alloc _
    have ho1 : Off b w w1 := by rw [hw1]; exact Off.alloc (by omega) _
    rw [← hw1]
    clear hw1 ht
    obtain ⟨z0, z1, z2, z3, z4, z5, z6, z7⟩ := hbx1.cells
    go_still_tail 4, (by kernel_rfl)
    change wpList _ _ _ _ _ w1.drew
    obtain ⟨w2, hw2⟩ : ∃ w2, w2 = w1.drew := ⟨_, rfl⟩
    have ht2 : Trav w2 b N d s := by rw [hw2]; exact ht1
    have hbx2 : Box w2 w.heap.size #[.int .i64 p.op, .int .u64 (wd p.set 0), .int .u64 (wd p.set 1), .int .u64 (wd p.set 2), .int .u64 (wd p.set 3), .int .i64 p.lo, .int .i64 p.hi, .slice a kids.length cap] := by rw [hw2]; exact hbx1
    have ho2 : Off b w w2 := by rw [hw2]; exact ho1.trans (Off.below (by have := ht1.lt; omega) (Below.refl _ _).drew)
    rw [← hw2]
    clear hw2 z0 z1 z2 z3 z4 z5 z6 z7 ho1 ht1 hbx1 w1
    go_wp2_with (first
      | (go_at_call 54; refine (enter_any p _ b N d s _ ht2 ⟨_, _, _, rfl⟩ (by omega) (by omega)).mono ?_; rintro e w3 ⟨rfl, ht3, ho3⟩; have hbx3 := ho3.box hbx2 hlt; obtain ⟨z0, z1, z2, z3, z4, z5, z6, z7⟩ := hbx3.cells)
      | (go_at_call 43; refine (always_any p _ _ ⟨_, _, _, rfl⟩).mono ?_; rintro e w4 ⟨rfl, hb4⟩; have hbx4 := hbx3.below hb4; have ht4 := ht3.below hb4; have hl4 := ht4.lt; have c7 := hbx4.cell 7))
    have ho4 : Off b w w4 := (ho2.trans ho3).trans (Off.below (by have := ht3.lt; omega) hb4)
    clear ho3 hb4 ht3 ho2 ht2 hbx2 hbx3
    go_loopw [21] (fun i wr => ∃ k : Nat, k ≤ kids.length ∧ i = .int .i64 k ∧ Trav wr b (N + 1 + Pat.sizes (kids.take k) : Nat) (d + 1 : Nat) (s ||| own0 p ||| bytesL (kids.take k)) ∧ Off b w wr) (fun i _ => kids.length - (intOf i).toNat)
    case atStart =>
      refine ⟨0, by omega, rfl, ?_, ho4⟩
      rw [List.take_zero, bytesL, show ∀ x : BitVec 256, x ||| 0 = x from fun x => BitVec.or_zero]
      exact ht4
    case round =>
      obtain ⟨k, hkl, rfl, htr, hor⟩ := hrel
      have hlr := htr.lt
      have hbw : Below w0.heap.size w0 wr := hb0.trans (hor.1.mono hbb)
      by_cases hlt2 : k < kids.length
      · obtain ⟨b1, o1, c1, e1, hr1⟩ := hk.row (by omega)
        cases e1
        obtain ⟨ks', hks, e0, e1, e2, e3, e4, e5, e6, e7⟩ := ((hr1.below hbw).at k hlt2).load
        obtain ⟨ks0, hks0, g0, g1, g2, g3, g4, g5, g6, g7⟩ := (hr1.at k hlt2).load
        obtain rfl : ks0 = ks' := by have h := (cell_below hbw g7).symm.trans e7; exact Option.some.inj h
        clear g0 g1 g2 g3 g4 g5 g6 g7
        have HS1 := Lib.hid (HSZ.out k hlt2)
        have HB1 := Lib.hid (HBY.out k hlt2)
        generalize kids[k] = p' at *
        obtain ⟨ka, kc, rfl⟩ := hks.len
        have hbx5 := Box.new wr #[.int .i64 p'.op, .int .u64 (wd p'.set 0), .int .u64 (wd p'.set 1), .int .u64 (wd p'.set 2), .int .u64 (wd p'.set 3), .int .i64 p'.lo, .int .i64 p'.hi, .slice ka p'.kids.length kc] rfl
        have ht5 := htr.alloc (.cells #[.int .i64 p'.op, .int .u64 (wd p'.set 0), .int .u64 (wd p'.set 1), .int .u64 (wd p'.set 2), .int .u64 (wd p'.set 3), .int .i64 p'.lo, .int .i64 p'.hi, .slice ka p'.kids.length kc] 28)
        have ho5 := Off.alloc (b := b) (w := wr) (by omega) (.cells #[.int .i64 p'.op, .int .u64 (wd p'.set 0), .int .u64 (wd p'.set 1), .int .u64 (wd p'.set 2), .int .u64 (wd p'.set 3), .int .i64 p'.lo, .int .i64 p'.hi, .slice ka p'.kids.length kc] 28)
        go_wp2_with (go_at_call 42; refine (IH.out p' _ b (N + 1 + Pat.sizes (kids.take k)) (d + 1) _ w0 _ HS1.out.2.1 (by omega) (by have := HS1.out.2.2; have := HNB.out; omega) (by omega) hks0 (hbw.trans (ho5.1.mono hbb)) hbb ht5).mono ?_; rintro e w6 ⟨rfl, ht6, ho6⟩)
        go_roundw
        case rel =>
          refine ⟨k + 1, by omega, num_succ k, ?_, (hor.trans ho5).trans ho6⟩
          rw [HB1.out, HS1.out.1, ← BitVec.or_assoc, ← Nat.add_assoc]
          exact ht6
        case measure => simp [intOf]; omega
      · obtain rfl : k = kids.length := by omega
        rw [List.take_length] at htr
        have HTR : Hid (Trav wr b (N + p.size : Nat) (d + 1 : Nat) (s ||| p.bytes)) := by rw [Hid, HSF.out, HBF.out, ← BitVec.or_assoc]; exact htr
        clear htr
        go_wp2_with (go_at_call 55; refine (leave_any b (N + p.size) d _ _ HTR.out (by omega)).mono ?_; rintro e w6 ⟨rfl, ht6, ho6⟩)
        go_ret
        exact ⟨rfl, ht6, hor.trans ho6⟩
theorem Trav.new (w : World) {n : Nat} (hn : w.heap.size = n) : Trav (w.alloc (.cells #[.int .i64 0, .int .i64 0, .int .u64 0, .int .u64 0, .int .u64 0, .int .u64 0] 58)) n (0 : Nat) (0 : Nat) 0 := by
  subst hn
  unfold Trav
  rw [wd_zero, wd_zero, wd_zero, wd_zero]
  exact heap_alloc_new w _
set_option maxHeartbeats 1000000 in
theorem size_any (p : Pat) (ks : Value) (w : World) (hs : p.size < 99999) (hk : Kids w p.kids ks) :
    Calls Try.prog 25 #[(.agg #[.int .i64 p.op, .int .u64 (wd p.set 0), .int .u64 (wd p.set 1), .int .u64 (wd p.set 2), .int .u64 (wd p.set 3), .int .i64 p.lo, .int .i64 p.hi, ks])] w fun e w' => e = .returned (.int .i64 p.size) ∧ Below w.heap.size w w' := by
  obtain ⟨a, cap, rfl⟩ := hk.len
  have hal := below2 w (.cells #[.int .i64 p.op, .int .u64 (wd p.set 0), .int .u64 (wd p.set 1), .int .u64 (wd p.set 2), .int .u64 (wd p.set 3), .int .i64 p.lo, .int .i64 p.hi, .slice a p.kids.length cap] 28) (.cells #[.int .i64 0, .int .i64 0, .int .u64 0, .int .u64 0, .int .u64 0, .int .u64 0] 58)
  have ht := Trav.new (w.alloc (.cells #[.int .i64 p.op, .int .u64 (wd p.set 0), .int .u64 (wd p.set 1), .int .u64 (wd p.set 2), .int .u64 (wd p.set 3), .int .i64 p.lo, .int .i64 p.hi, .slice a p.kids.length cap] 28)) (n := w.heap.size + 1) (by simp)
  go_enter Try.func25, Try.ntmps25
  go_wp2_with (go_at_call 42; refine (walk_any 99999 p _ (w.heap.size + 1) 0 0 0 w _ hs (by omega) (by omega) (by omega) hk hal (by omega) ht).mono ?_; rintro e w2 ⟨rfl, ht2, ho2⟩; obtain ⟨c0, c1, c2, c3, c4, c5⟩ := ht2.cells)
  go_ret
  exact ⟨rfl, hal.trans (ho2.1.mono (by omega))⟩
set_option maxHeartbeats 1000000 in
theorem bytes_any (p : Pat) (ks : Value) (w : World) (hs : p.size < 99999) (hk : Kids w p.kids ks) :
    Calls Try.prog 27 #[(.agg #[.int .i64 p.op, .int .u64 (wd p.set 0), .int .u64 (wd p.set 1), .int .u64 (wd p.set 2), .int .u64 (wd p.set 3), .int .i64 p.lo, .int .i64 p.hi, ks])] w fun e w' => e = .returned (.agg #[.int .u64 (wd (p.bytes) 0), .int .u64 (wd (p.bytes) 1), .int .u64 (wd (p.bytes) 2), .int .u64 (wd (p.bytes) 3)]) ∧ Below w.heap.size w w' := by
  obtain ⟨a, cap, rfl⟩ := hk.len
  have hal := below3 w (.cells #[.int .i64 p.op, .int .u64 (wd p.set 0), .int .u64 (wd p.set 1), .int .u64 (wd p.set 2), .int .u64 (wd p.set 3), .int .i64 p.lo, .int .i64 p.hi, .slice a p.kids.length cap] 28) (.cells #[.int .u64 0, .int .u64 0, .int .u64 0, .int .u64 0] 24) (.cells #[.int .i64 0, .int .i64 0, .int .u64 0, .int .u64 0, .int .u64 0, .int .u64 0] 58)
  have ht := Trav.new ((w.alloc (.cells #[.int .i64 p.op, .int .u64 (wd p.set 0), .int .u64 (wd p.set 1), .int .u64 (wd p.set 2), .int .u64 (wd p.set 3), .int .i64 p.lo, .int .i64 p.hi, .slice a p.kids.length cap] 28)).alloc (.cells #[.int .u64 0, .int .u64 0, .int .u64 0, .int .u64 0] 24)) (n := w.heap.size + 1 + 1) (by simp)
  have hz := (SetAt.zero2 w (.cells #[.int .i64 p.op, .int .u64 (wd p.set 0), .int .u64 (wd p.set 1), .int .u64 (wd p.set 2), .int .u64 (wd p.set 3), .int .i64 p.lo, .int .i64 p.hi, .slice a p.kids.length cap] 28)).alloc (.cells #[.int .i64 0, .int .i64 0, .int .u64 0, .int .u64 0, .int .u64 0, .int .u64 0] 58)
  have HO : Hid ((0 : BitVec 256) ||| p.bytes = p.bytes) := BitVec.zero_or
  go_enter Try.func27, Try.ntmps27
  go_wp2_with (go_at_call 42; refine (walk_any 99999 p _ (w.heap.size + 1 + 1) 0 0 0 w _ hs (by omega) (by omega) (by omega) hk hal (by omega) ht).mono ?_; rintro e w2 ⟨rfl, ht2, ho2⟩; rw [HO.out] at ht2; obtain ⟨c0, c1, c2, c3, c4, c5⟩ := ht2.cells; have hz2 := hz.below ho2.1 (by omega); obtain ⟨d0, d1, d2, d3⟩ := hz2.cells; obtain ⟨g0, g1, g2, g3⟩ := hz2.free)
  refine bodyPost_ret (v := (.agg #[.int .u64 (wd (p.bytes) 0), .int .u64 (wd (p.bytes) 1), .int .u64 (wd (p.bytes) 2), .int .u64 (wd (p.bytes) 3)])) (by simp [results, Try.results27, go_sem, *]) rfl ⟨rfl, ?_⟩
  exact below_set4 (hal.trans (ho2.1.mono (by omega))) (by omega) _ _ _ _
end Go.Proofs.Ytnjcefjcpmjdiaa
