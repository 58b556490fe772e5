/- Texts that a proof rests on: Contract of homographref02.Same. -/
import Derived.Test.YtkpfpegjapddfaaGreatDoorK09
import Derived.Deep.RegionWith
import Derived.Deep.QuietTactic
set_option maxRecDepth 20000
namespace Go.Proofs.YtkpfpegjapddfaaGreatDoor
open Go.RowKit

theorem neq_set (s t : BitVec 256) (h : s ≠ t) (w : World) : (Op.equalIn 10000 24 (.agg #[.int .u64 (wd (s) 0), .int .u64 (wd (s) 1), .int .u64 (wd (s) 2), .int .u64 (wd (s) 3)]) (.agg #[.int .u64 (wd (t) 0), .int .u64 (wd (t) 1), .int .u64 (wd (t) 2), .int .u64 (wd (t) 3)])).run Tryz.prog w = .ok false w := by rw [eq_set]; simp [h]
set_option maxHeartbeats 4000000 in
theorem rsame_any : ∀ (n : Nat) (p q : Pat) (ks js : Value) (w : World), p.size < n → n ≤ 100000 → Kids w p.kids ks → Kids w q.kids js →
    Calls Tryz.prog 15 #[(.agg #[.int .i64 p.op, .int .u64 (wd p.set 0), .int .u64 (wd p.set 1), .int .u64 (wd p.set 2), .int .u64 (wd p.set 3), .int .i64 p.lo, .int .i64 p.hi, ks]), (.agg #[.int .i64 q.op, .int .u64 (wd q.set 0), .int .u64 (wd q.set 1), .int .u64 (wd q.set 2), .int .u64 (wd q.set 3), .int .i64 q.lo, .int .i64 q.hi, js])] w fun e w' => e = .returned (.bool (p.same q)) ∧ Below w.heap.size w w' := by
  intro n
  induction n with
  | zero => intro p q ks js w h; omega
  | succ n ih =>
    intro p q ks js w hn hmax hk hj
    have hse := size_eq p
    have hlen := length_sizes p.kids
    have IH := Lib.hid ih
    clear ih
    obtain ⟨a, cap, rfl⟩ := hk.len
    obtain ⟨b, cbp, rfl⟩ := hj.len
    have HSm := Lib.hid (same_eq p q)
    by_cases h1 : p.op = q.op
    rotate_left
    · have HR : Hid (p.same q = false) := by rw [Hid, HSm.out]; simp [h1]
      go_enter Tryz.func15, Tryz.ntmps15
      go_wp2_with fail
      go_ret
      exact ⟨by rw [HR.out]; rfl, ((Below.refl _ _).alloc (Nat.le_refl _) _).alloc (by simp) _⟩
    by_cases h2 : p.set = q.set
    rotate_left
    · have HR : Hid (p.same q = false) := by rw [Hid, HSm.out]; simp [h2]
      have hq2 := neq_set _ _ h2
      go_enter Tryz.func15, Tryz.ntmps15
      go_wp2_with fail
      go_ret
      exact ⟨by rw [HR.out]; rfl, ((Below.refl _ _).alloc (Nat.le_refl _) _).alloc (by simp) _⟩
    by_cases h3 : p.lo = q.lo
    rotate_left
    · have HR : Hid (p.same q = false) := by rw [Hid, HSm.out]; simp [h3]
      have hq2 := eq_set_same p.set
      rw [← h2]
      clear h2 HSm
      go_enter Tryz.func15, Tryz.ntmps15
      go_wp2_with fail
      go_ret
      exact ⟨by rw [HR.out]; rfl, ((Below.refl _ _).alloc (Nat.le_refl _) _).alloc (by simp) _⟩
    by_cases h4 : p.hi = q.hi
    rotate_left
    · have HR : Hid (p.same q = false) := by rw [Hid, HSm.out]; simp [h4]
      have hq2 := eq_set_same p.set
      rw [← h2]
      clear h2 HSm
      go_enter Tryz.func15, Tryz.ntmps15
      go_wp2_with fail
      go_ret
      exact ⟨by rw [HR.out]; rfl, ((Below.refl _ _).alloc (Nat.le_refl _) _).alloc (by simp) _⟩
    by_cases h5 : p.kids.length = q.kids.length
    rotate_left
    · have HR : Hid (p.same q = false) := by rw [Hid, HSm.out, sameL_length _ _ h5]; simp
      have hq2 := eq_set_same p.set
      rw [← h2]
      clear h2 HSm
      go_enter Tryz.func15, Tryz.ntmps15
      go_wp2_with fail
      go_ret
      exact ⟨by rw [HR.out]; rfl, ((Below.refl _ _).alloc (Nat.le_refl _) _).alloc (by simp) _⟩
    have HR : Hid (p.same q = sameL p.kids q.kids) := by rw [Hid, HSm.out]; simp [h1, h2, h3, h4]
    have hq2 := eq_set_same p.set
    rw [← h1, ← h2, ← h3, ← h4, ← h5]
    rw [← h5] at hj
    have HJ : Hid (q.kids.length = p.kids.length) := h5.symm
    clear h1 h2 h3 h4 h5 HSm
    generalize hkk : p.kids = kids at *
    generalize hjj : q.kids = jids at *
    go_enter Tryz.func15, Tryz.ntmps15
    go_wp2_with fail
    clear hq2
    go_loopw [5] (fun i wr => ∃ k : Nat, k ≤ kids.length ∧ i = .int .i64 k ∧ Hid (∀ i (ha : i < kids.length) (hb : i < jids.length), i < k → kids[i].same jids[i] = true) ∧ wr.cell? ⟨w.heap.size, 7, none⟩ = some (.slice a kids.length cap) ∧ wr.cell? ⟨w.heap.size + 1, 7, none⟩ = some (.slice b kids.length cbp) ∧ Below w.heap.size w wr) (fun i _ => kids.length - (intOf i).toNat)
    case atStart => exact ⟨0, by omega, rfl, fun i _ _ h => by omega, by simp, by simp, ((Below.refl _ _).alloc (Nat.le_refl _) _).alloc (by simp) _⟩
    case round =>
      obtain ⟨k, hkl, rfl, HP, hc7, hd7, hbw⟩ := hrel
      by_cases hlt : k < kids.length
      · obtain ⟨b1, o1, c1, e1, hr1⟩ := hk.row (by omega)
        obtain ⟨b2, o2, c2, e2, hr2⟩ := hj.row (by have := HJ.out; omega)
        cases e1
        rw [HJ.out] at e2
        cases e2
        have hlt2 : k < jids.length := by have := HJ.out; omega
        obtain ⟨ks', hks, e0, e1, e2, e3, e4, e5, e6, e7⟩ := ((hr1.below hbw).at k hlt).load
        obtain ⟨js', hjs, f0, f1, f2, f3, f4, f5, f6, f7⟩ := ((hr2.below hbw).at k hlt2).load
        have hsz := size_kid kids k hlt
        have HT := Lib.hid (sameL_false kids jids k hlt hlt2)
        have HP2 : Hid (kids[k].same jids[k] = true → ∀ i (ha : i < kids.length) (hb : i < jids.length), i < k + 1 → kids[i].same jids[i] = true) := fun h i ha hb hi => by
          rcases Nat.lt_succ_iff_lt_or_eq.1 hi with h | rfl
          · exact HP.out i ha hb h
          · exact h
        clear HP
        generalize kids[k] = p' at *
        generalize jids[k] = q' at *
        cases hq : p'.same q'
        · have HQ := Lib.hid hq
          clear hq
          go_wp2_with fail
          go_still_tail 10, (by kernel_rfl)
          change wpList _ _ _ _ _ wr.drew
          obtain ⟨w2, hw2⟩ : ∃ w2, w2 = wr.drew := ⟨_, rfl⟩
          have hks2 : Kids w2 p'.kids ks' := by rw [hw2]; exact hks.drew
          have hjs2 : Kids w2 q'.kids js' := by rw [hw2]; exact hjs.drew
          have hbw2 : Below w.heap.size w w2 := by rw [hw2]; exact hbw.drew
          rw [← hw2]
          clear hw2 hks hjs hbw hc7 hd7 e0 e1 e2 e3 e4 e5 e6 e7 f0 f1 f2 f3 f4 f5 f6 f7
          go_wp2_with (go_at_call 15; refine (IH.out p' q' ks' js' _ (by omega) (by omega) hks2 hjs2).mono ?_; rw [HQ.out]; rintro e w3 ⟨rfl, hb3⟩)
          go_ret
          exact ⟨by rw [HR.out, HT.out HQ.out]; rfl, hbw2.trans (hb3.mono hbw2.size)⟩
        · have HQ := Lib.hid hq
          clear hq
          go_wp2_with fail
          go_still_tail 10, (by kernel_rfl)
          change wpList _ _ _ _ _ wr.drew
          obtain ⟨w2, hw2⟩ : ∃ w2, w2 = wr.drew := ⟨_, rfl⟩
          have hks2 : Kids w2 p'.kids ks' := by rw [hw2]; exact hks.drew
          have hjs2 : Kids w2 q'.kids js' := by rw [hw2]; exact hjs.drew
          have hbw2 : Below w.heap.size w w2 := by rw [hw2]; exact hbw.drew
          have hc72 := (congrArg (fun z : World => z.cell? ⟨w.heap.size, 7, none⟩) hw2).trans hc7
          have hd72 := (congrArg (fun z : World => z.cell? ⟨w.heap.size + 1, 7, none⟩) hw2).trans hd7
          rw [← hw2]
          clear hw2 hks hjs hbw hc7 hd7 e0 e1 e2 e3 e4 e5 e6 e7 f0 f1 f2 f3 f4 f5 f6 f7
          go_wp2_with (go_at_call 15; refine (IH.out p' q' ks' js' _ (by omega) (by omega) hks2 hjs2).mono ?_; rw [HQ.out]; rintro e w3 ⟨rfl, hb3⟩)
          go_roundw
          case rel => exact ⟨k + 1, by omega, num_succ k, HP2.out HQ.out, cell_below hb3 hc72, cell_below hb3 hd72, hbw2.trans (hb3.mono hbw2.size)⟩
          case measure => simp [intOf]; omega
      · obtain rfl : k = kids.length := by omega
        have HF : Hid (sameL kids jids = true) := sameL_true _ _ HJ.out.symm fun i ha hb => HP.out i ha hb ha
        go_wp2_with fail
        go_ret
        exact ⟨by rw [HR.out, HF.out]; rfl, hbw⟩
end Go.Proofs.YtkpfpegjapddfaaGreatDoor
