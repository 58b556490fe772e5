/- Contract of homographref02.Bytes. -/
import Derived.Test.YtnjcefjcpmjdiaaD3
import Derived.Test.YtnjcefjcpmjdiaaB1
import Derived.Deep.RegionWith
import Derived.Deep.RegionHeld3
set_option maxRecDepth 20000
namespace Go.Proofs.Ytnjcefjcpmjdiaa
open Go.RowKit

theorem bytesL_take (l : List Pat) (k : Nat) (h : k < l.length) : bytesL (l.take (k + 1)) = bytesL (l.take k) ||| l[k].bytes := by
  rw [List.take_succ_eq_append_getElem h, bytesL_append]; simp [bytesL]
/-- What a node names by itself. -/
def own0 (p : Pat) : BitVec 256 := bif p.op == 0 then p.set else 0
theorem cell_other4 {w : World} {a : Addr} {v : Value} {b : Nat} (h : w.cell? a = some v) (hb : a.block ≠ b) (v0 v1 v2 v3 : Value) :
    ((((w.setCell ⟨b, 0, none⟩ v0).setCell ⟨b, 1, none⟩ v1).setCell ⟨b, 2, none⟩ v2).setCell ⟨b, 3, none⟩ v3).cell? a = some v := by
  rw [World.cell?_of_block (w := w)]
  · exact h
  · rw [Below.heap_setCell _ _ _ _ (by simpa using hb), Below.heap_setCell _ _ _ _ (by simpa using hb), Below.heap_setCell _ _ _ _ (by simpa using hb), Below.heap_setCell _ _ _ _ (by simpa using hb)]
theorem SetAt.zero2 (w : World) (o : Obj) : SetAt ((w.alloc o).alloc (.cells #[.int .u64 0, .int .u64 0, .int .u64 0, .int .u64 0] 24)) (w.heap.size + 1) 0 := by
  have := SetAt.zero (w.alloc o); simpa using this
theorem SetAt.zero3 (w : World) (o o2 : Obj) : SetAt (((w.alloc o).alloc o2).alloc (.cells #[.int .u64 0, .int .u64 0, .int .u64 0, .int .u64 0] 24)) (w.heap.size + 1 + 1) 0 := by
  have := SetAt.zero ((w.alloc o).alloc o2); simpa using this
theorem SetAt.new3 (w : World) (o o2 : Obj) (s : BitVec 256) : SetAt (((w.alloc o).alloc o2).alloc (.cells #[.int .u64 (wd s 0), .int .u64 (wd s 1), .int .u64 (wd s 2), .int .u64 (wd s 3)] 24)) (w.heap.size + 1 + 1) s := by
  have := SetAt.new ((w.alloc o).alloc o2) s; simpa using this
theorem cell_first3 (w : World) (c : Array Value) (t : TypeId) (o2 o3 : Obj) (i : Nat) (v : Value) (h : c[i]? = some v) : (((w.alloc (.cells c t)).alloc o2).alloc o3).cell? ⟨w.heap.size, i, none⟩ = some v := by
  refine cell_below ((Below.refl _ _).alloc (Nat.le_refl _) _) (cell_below ((Below.refl _ _).alloc (Nat.le_refl _) _) ?_)
  simpa using h
set_option maxHeartbeats 4000000 in
theorem rbytes_any : ∀ (n : Nat) (p : Pat) (ks : Value) (w : World), p.size < n → n ≤ 100000 → Kids w p.kids ks →
    Calls Try.prog 28 #[(.agg #[.int .i64 p.op, .int .u64 (wd p.set 0), .int .u64 (wd p.set 1), .int .u64 (wd p.set 2), .int .u64 (wd p.set 3), .int .i64 p.lo, .int .i64 p.hi, ks])] w fun e w' => e = .returned (.agg #[.int .u64 (wd (p.bytes) 0), .int .u64 (wd (p.bytes) 1), .int .u64 (wd (p.bytes) 2), .int .u64 (wd (p.bytes) 3)]) ∧ Below w.heap.size w w' := by
  intro n
  induction n with
  | zero => intro p ks w h; omega
  | succ n ih =>
    intro p ks w hn hmax hk
    have hse := size_eq p
    have hlen := length_sizes p.kids
    have IH := Lib.hid ih
    clear ih
    have hl := hk.len
    obtain ⟨a, cap, rfl⟩ := hl
    have HB : Hid (p.bytes = own0 p ||| bytesL p.kids) := bytes_eq p
    have hop : p.op = 0 ∧ own0 p = p.set ∨ ¬ p.op = 0 ∧ own0 p = 0 := by
      by_cases h0 : p.op = 0
      · exact .inl ⟨h0, by unfold own0; rw [h0]; rfl⟩
      · exact .inr ⟨h0, by unfold own0; rw [show (p.op == 0) = false by simpa using h0]; rfl⟩
    have HSM : Hid (∀ k (h : k < p.kids.length), p.kids[k].size < n) := fun k h => by have := size_kid p.kids k h; omega
    have hsm : p.kids.length < 100000 := by omega
    generalize hkk : p.kids = kids at *
    clear hse hlen hkk
    rcases hop with ⟨h0, ho⟩ | ⟨h0, ho⟩
    all_goals
      have HO := Lib.hid ho
      clear ho
      have hb0 : (p.op == 0) = decide (p.op = 0) := by rw [Bool.eq_iff_iff]; simp
      first | (rw [h0]; clear hb0) | (rw [decide_eq_false h0] at hb0)
      go_enter Try.func28, Try.ntmps28
      go_wp2_with fail
      first | clear h0 hb0 | clear h0
      go_loopw [4] (fun i wr => ∃ k : Nat, k ≤ kids.length ∧ i = .int .i64 k ∧ SetAt wr (w.heap.size + 1 + 1) (own0 p ||| bytesL (kids.take k)) ∧ SetAt wr (w.heap.size + 1) 0 ∧ wr.cell? ⟨w.heap.size, 7, none⟩ = some (.slice a kids.length cap) ∧ Below w.heap.size w wr) (fun i _ => kids.length - (intOf i).toNat)
      case atStart =>
        refine ⟨0, by omega, rfl, ?_, (SetAt.zero2 _ _).alloc _, cell_first3 _ _ _ _ _ _ _ rfl, below3 _ _ _ _⟩
        rw [HO.out, List.take_zero, bytesL, show ∀ x : BitVec 256, x ||| 0 = x from fun x => BitVec.or_zero]
        first | exact SetAt.new3 _ _ _ _ | exact SetAt.zero3 _ _ _
      case round =>
        obtain ⟨k, hkl, rfl, hs, hz, hc7, hbw⟩ := hrel
        by_cases hlt : k < kids.length
        · obtain ⟨b1, o1, c1, e1, hr1⟩ := hk.row (by omega)
          cases e1
          obtain ⟨ks', hks, e0, e1, e2, e3, e4, e5, e6, e7⟩ := ((hr1.below hbw).at k hlt).load
          have HS1 := Lib.hid (HSM.out k hlt)
          have HN : Hid (own0 p ||| bytesL (kids.take (k + 1)) = (own0 p ||| bytesL (kids.take k)) ||| kids[k].bytes) := by rw [Hid, bytesL_take kids k hlt, BitVec.or_assoc]
          generalize kids[k] = p' at *
          generalize own0 p ||| bytesL (kids.take k) = u at *
          obtain ⟨c0, c1, c2, c3⟩ := hs.cells
          go_wp2_with fail
          go_region_with (first
            | (go_at_call 28; refine (IH.out p' ks' _ HS1.out (by omega) (by first | exact hks | exact hks.drew)).mono ?_; rintro e w5 ⟨rfl, hb5⟩; have hs5 := (show SetAt wr.drew _ _ from hs).grown hb5; obtain ⟨d0, d1, d2, d3⟩ := hs5.cells)
            | (go_at_call 33; refine (runion_pair u p'.bytes _ _ rfl).mono ?_; rintro e w6 ⟨rfl, hb6⟩; have hs6 := hs5.grown hb6; obtain ⟨d0, d1, d2, d3⟩ := hs6.cells; obtain ⟨g0, g1, g2, g3⟩ := hs6.free))
          all_goals
            have hb46 : Below wr.heap.size wr w6 := ((Below.refl wr.heap.size wr).drew.trans hb5).trans (hb6.mono hb5.size)
            go_wp2_with fail
            go_roundw
            case rel =>
              refine ⟨k + 1, by omega, num_succ k, ?_, (hz.grown hb46).other4 (by omega) _ _ _ _, ?_, below_set4 (hbw.trans (hb46.mono hbw.size)) (by omega) _ _ _ _⟩
              · rw [HN.out]; exact hs6.store _
              · exact cell_other4 (cell_below hb46 hc7) (by show w.heap.size ≠ _; omega) _ _ _ _
            case measure => simp [intOf]; omega
        · obtain rfl : k = kids.length := by omega
          rw [List.take_length] at hs
          rw [← HB.out] at hs
          obtain ⟨c0, c1, c2, c3⟩ := hs.cells
          obtain ⟨d0, d1, d2, d3⟩ := hz.cells
          obtain ⟨g0, g1, g2, g3⟩ := hz.free
          go_wp2
          refine bodyPost_ret (v := (.agg #[.int .u64 (wd (p.bytes) 0), .int .u64 (wd (p.bytes) 1), .int .u64 (wd (p.bytes) 2), .int .u64 (wd (p.bytes) 3)])) (by simp [results, Try.results28, go_sem, *]) rfl ⟨rfl, ?_⟩
          exact below_set4 hbw (by omega) _ _ _ _
end Go.Proofs.Ytnjcefjcpmjdiaa
