/- Texts that a proof rests on: The matcher, and what matches a whole text. | The first place from which a pattern matches. | The contract of Ends. -/
import Derived.Test.YtooaamepflkgnaaDoorN31
import Derived.Test.YtooaamepflkgnaaDoorN33
import Derived.Test.YtooaamepflkgnaaDoorN35
set_option maxRecDepth 100000
namespace Go.Proofs.YtooaamepflkgnaaDoor
open Go.RowKit

/-- A matcher's root lies at b; what is known lies in maps of mb, and in no block of X. -/
structure Ready (s : ByteArray) (p : Pat) (mb : Nat → Option Pat) (b : Nat) (X : Nat → Prop) (w : World) : Prop where
  tree : TreeP w mb p false b
  memo : Memos s mb X w
  xm : ∀ k, Xm mb k → X k
  lt : ∀ k, X k → k < w.heap.size
theorem Ready.below {s : ByteArray} {p : Pat} {mb : Nat → Option Pat} {b : Nat} {X : Nat → Prop} {w w' : World} (h : Ready s p mb b X w) (hb : Below w.heap.size w w') : Ready s p mb b X w' := ⟨TreeP.out (Out.below hb) p h.tree, h.memo.below hb, h.xm, fun k hk => by have := h.lt k hk; have := hb.size; omega⟩
theorem Ready.out {s : ByteArray} {p : Pat} {mb : Nat → Option Pat} {b : Nat} {X : Nat → Prop} {w w' : World} (h : Ready s p mb b X w) (ho : Out (Xm mb) w w') (hm : Memos s mb X w') : Ready s p mb b X w' := ⟨TreeP.out ho p h.tree, hm, h.xm, fun k hk => by have := h.lt k hk; have := ho.size; omega⟩
/-- What may be asked. -/
structure Fine (s : ByteArray) (p : Pat) : Prop where
  sz : s.size ≤ 90
  num : p.num = true
  small : p.size < 9000
theorem ready_new {s : ByteArray} {p : Pat} {mb : Nat → Option Pat} {b lo : Nat} {x : Option Nat} {w : World} (h : TreeP (mask w lo x) mb p false b) (hm : Maps0 w mb lo) : Ready s p mb b (Xm mb) w := by
  refine ⟨h.unmask, fun m q e => ?_, fun _ h => h, fun k hk => by obtain ⟨_, c, h1⟩ := hm k hk; exact lt_of_block h1⟩
  obtain ⟨_, c, h1⟩ := hm m (by unfold Xm; rw [e]; simp)
  exact ⟨#[], c, h1, fun e he => by simp at he⟩
set_option maxHeartbeats 2000000 in
theorem newMatcher_any (s : ByteArray) (p : Pat) (ks : Value) (w : World) (hf : Fine s p) (hk : Kids w p.kids ks) :
    Calls Tryd.prog 26 #[(.agg #[.int .i64 p.op, .int .u64 (wd p.set 0), .int .u64 (wd p.set 1), .int .u64 (wd p.set 2), .int .u64 (wd p.set 3), .int .i64 p.lo, .int .i64 p.hi, ks]), .string s] w fun e w' => ∃ b mb, e = .returned (mV (pV b) s) ∧ Below w.heap.size w w' ∧ Ready s p mb b (Xm mb) w' ∧ ∀ m, Xm mb m → w.heap.size ≤ m := by
  obtain ⟨a, cap, rfl⟩ := hk.len
  obtain ⟨N, hN⟩ : ∃ N, w.heap.size = N := ⟨_, rfl⟩
  obtain ⟨w1, hw1⟩ : ∃ w1, w1 = (w.alloc (.cells #[.int .i64 p.op, .int .u64 (wd p.set 0), .int .u64 (wd p.set 1), .int .u64 (wd p.set 2), .int .u64 (wd p.set 3), .int .i64 p.lo, .int .i64 p.hi, .slice a p.kids.length cap] 28)).alloc (.cells #[.pointer none, .string ⟨#[]⟩] 53) := ⟨_, rfl⟩
  have hb1 : Below w.heap.size w w1 := by rw [hw1]; exact below2 w _ _
  have hsz1 : w1.heap.size = N + 2 := by rw [hw1]; simp [hN]
  have hbr : w1.heap[N + 1]? = some (.cells #[.pointer none, .string ⟨#[]⟩] 53 (0, 0)) := by
    have := heap_alloc_new (w.alloc (.cells #[.int .i64 p.op, .int .u64 (wd p.set 0), .int .u64 (wd p.set 1), .int .u64 (wd p.set 2), .int .u64 (wd p.set 3), .int .i64 p.lo, .int .i64 p.hi, .slice a p.kids.length cap] 28)) (.cells #[.pointer none, .string ⟨#[]⟩] 53)
    rw [World.size_alloc, hN] at this
    rw [hw1]; exact this
  have hsm := hf.small
  have HC := Lib.hid (newPart_any 9500 p (.slice a p.kids.length cap) w1 65536 false (by omega) (by omega) (by omega) (by omega) (hk.below hb1))
  have HW := Lib.hid hw1
  have HB := Lib.hid hb1
  have HBR := Lib.hid hbr
  clear hw1 hb1 hbr hk
  go_enter Tryd.func26, Tryd.ntmps26
  go_wp2_with (go_at_call 32; rw [← HW.out]; refine HC.out.mono ?_; rintro e w2 ⟨b, mb, rfl, hb2, ht2, hm2⟩; have hr2 := (hb2.block (N + 1) (by omega)).trans HBR.out; obtain ⟨c0, c1⟩ := pair_cells hr2; have f0 := frozen_row (j := 0) hr2; have f1 := frozen_row (j := 1) hr2)
  obtain ⟨w3, hw3⟩ : ∃ w3, w3 = (w2.setCell ⟨N + 1, 0, none⟩ (pV b)).setCell ⟨N + 1, 1, none⟩ (.string s) := ⟨_, rfl⟩
  have hk3 : ∀ c, w1.heap.size ≤ c → some c ≠ none → c < w2.heap.size → w3.heap[c]? = w2.heap[c]? ∧ w1.heap.size ≤ c ∧ some c ≠ none := fun c h1 h2 _ => by
    refine ⟨?_, h1, h2⟩
    rw [hw3, Below.heap_setCell _ _ _ _ (by show c ≠ N + 1; omega), Below.heap_setCell _ _ _ _ (by show c ≠ N + 1; omega)]
  have ht3 := TreeP.trans (keep_hh hk3) (keep_hc hk3) (fun _ _ h => h) (fun _ _ _ h => h) p ht2
  have hm3 : Maps0 w3 mb w1.heap.size := fun m hx => by
    obtain ⟨h1, c, h2⟩ := hm2 m hx
    exact ⟨h1, c, (hk3 m h1 (by simp) (lt_of_block h2)).1.trans h2⟩
  have hb3 : Below w.heap.size w w3 := by
    rw [hw3]
    exact ((HB.out.trans (hb2.mono HB.out.size)).setCell (p := ⟨N + 1, 0, none⟩) (by show w.heap.size ≤ N + 1; omega) _).setCell (p := ⟨N + 1, 1, none⟩) (by show w.heap.size ≤ N + 1; omega) _
  have HF : Hid (∃ b' mb, (Ending.returned (mV (pV b) s) : Ending) = .returned (mV (pV b') s) ∧ Below w.heap.size w w3 ∧ Ready s p mb b' (Xm mb) w3 ∧ ∀ m, Xm mb m → w.heap.size ≤ m) := Lib.hid ⟨b, mb, rfl, hb3, ready_new ht3 hm3, fun m hx => by have := (hm2 m hx).1; omega⟩
  rw [hw3] at HF
  clear hk3 ht3 hm3 hb3 hw3 hb2 ht2 hm2
  exact bodyPost_ret (v := mV (pV b) s) (by simp [results, Tryd.results26, go_sem, *]) rfl HF.out
/-- From a place on: the last place up to which a pattern matches. -/
def LongR (s : ByteArray) (p : Pat) (i z : Int) (ok : Bool) : Prop := (ok = true ∧ 0 ≤ i ∧ i ≤ s.size ∧ p.M s i z ∧ ∀ x, p.M s i x → x ≤ z) ∨ (ok = false ∧ z = 0 ∧ ∀ x, 0 ≤ i → i ≤ s.size → ¬ p.M s i x)
/-- What endsFrom gives. -/
def EndsPost (s : ByteArray) (p : Pat) (mb : Nat → Option Pat) (X : Nat → Prop) (i : Int) (w : World) (e : Ending) (w' : World) : Prop := ∃ a n c L, e = .returned (.agg #[.slice a n c]) ∧ Rn w' X (.slice a n c) L ∧ Nrm L ∧ In s.size L ∧ (∀ x, mem L x ↔ 0 ≤ i ∧ i ≤ s.size ∧ p.M s i x) ∧ Out (Xm mb) w w' ∧ Memos s mb X w'
set_option linter.unusedSimpArgs false in
set_option maxHeartbeats 2000000 in
theorem endsFrom_any (s : ByteArray) (p : Pat) (mb : Nat → Option Pat) (b : Nat) (X : Nat → Prop) (i : Int) (w : World) (hf : Fine s p) (hr : Ready s p mb b X w) (hi : -1000 ≤ i ∧ i ≤ 1000) :
    Calls Tryd.prog 30 #[mV (pV b) s, .int .i64 i] w (EndsPost s p mb X i w) := by
  obtain ⟨N, hN⟩ : ∃ N, w.heap.size = N := ⟨_, rfl⟩
  obtain ⟨w1, hw1⟩ : ∃ w1, w1 = (w.alloc (.cells #[pV b, .string s] 53)).alloc (.cells #[.slice none 0 0] 61) := ⟨_, rfl⟩
  have hb1 : Below w.heap.size w w1 := by rw [hw1]; exact below2 w _ _
  have hsz1 : w1.heap.size = N + 2 := by rw [hw1]; simp [hN]
  have hbm : w1.heap[N]? = some (.cells #[pV b, .string s] 53 (0, 0)) := by
    rw [hw1, heap_alloc_old _ _ (by simp; omega), ← hN]; exact heap_alloc_new w _
  have hbr : w1.heap[N + 1]? = some (.cells #[.slice none 0 0] 61 (0, 0)) := by
    have := heap_alloc_new (w.alloc (.cells #[pV b, .string s] 53)) (.cells #[.slice none 0 0] 61)
    rw [World.size_alloc, hN] at this
    rw [hw1]; exact this
  have hxlt : ∀ k, X k → k < N := fun k hk => by have := hr.lt k hk; omega
  have HXM := Lib.hid hr.xm
  have HR1 := Lib.hid (hr.below hb1)
  have HM0 := Lib.hid ((hr.memo.weak (Y := Loc X N (N + 2)) (fun k hk h => by rcases h with h | h; exact h; omega)).below hb1)
  have HW := Lib.hid hw1
  have HB := Lib.hid hb1
  have HBM := Lib.hid hbm
  have HBR := Lib.hid hbr
  have HXL := Lib.hid hxlt
  have HFI := Lib.hid hf
  have hsz := hf.sz
  clear hr hxlt hf hb1
  have OUT : Hid ((i < 0 ∨ i > s.size) → EndsPost s p mb X i w (.returned (.agg #[.slice none 0 0])) w1) := Lib.hid fun h => ⟨none, 0, 0, [], rfl, Rn.nil _ _, .nil, In.nil _, fun x => ⟨fun h => by simp [mem] at h, fun h2 => by omega⟩, Out.below HB.out, HR1.out.memo⟩
  obtain ⟨c0, c1⟩ := pair_cells hbm
  have c2 := box_cell hbr
  have f2 := frozen_row (j := 0) hbr
  rw [hw1] at c0 c1 c2 f2
  by_cases h0 : i < 0
  · have HH := Lib.hid (OUT.out (.inl h0))
    have hd : decide (i < 0) = true := by simpa using h0
    rw [hw1] at HH
    clear h0 hbm hbr hw1
    go_enter Tryd.func30, Tryd.ntmps30
    go_wp2
    exact bodyPost_ret (v := .agg #[.slice none 0 0]) (by simp [results, Tryd.results30, go_sem, *]) rfl HH.out
  have hd : decide (i < 0) = false := by simpa using h0
  by_cases h1 : i > s.size
  · have HH := Lib.hid (OUT.out (.inr h1))
    have hd2 : decide (i > s.size) = true := by simpa using h1
    have hd3 : decide ((s.size : Int) < i) = true := by simpa using h1
    rw [hw1] at HH
    clear h0 h1 hbm hbr hw1
    go_enter Tryd.func30, Tryd.ntmps30
    go_wp2
    exact bodyPost_ret (v := .agg #[.slice none 0 0]) (by simp [results, Tryd.results30, go_sem, *]) rfl HH.out
  have hi0 : 0 ≤ i ∧ i ≤ s.size := by omega
  have hd2 : decide (i > s.size) = false := by simpa using h1
  have hd3 : decide ((s.size : Int) < i) = false := by simpa using h1
  go_enter Tryd.func30, Tryd.ntmps30
  go_wp2
  rw [← HW.out]
  rw [← hw1] at c0 c1 c2 f2
  have e0 : w1.drew.cell? ⟨N, 0, none⟩ = some (pV b) := c0
  have e1 : w1.drew.cell? ⟨N, 1, none⟩ = some (.string s) := c1
  have mixed : Tryd.prog.follows .mixedOrders = true := by kernel_rfl
  have hm1N : mb (N + 1) = none := by
    cases e : mb (N + 1) with
    | none => rfl
    | some q => have := HXL.out (N + 1) (HXM.out _ (by unfold Xm; rw [e]; simp)); omega
  have hm0N : mb N = none := by
    cases e : mb N with
    | none => rfl
    | some q => have := HXL.out N (HXM.out _ (by unfold Xm; rw [e]; simp)); omega
  clear hd hd2 hd3 h0 h1 hbm hw1
  refine region_goes 7 8 rfl (fun W => W.cell? ⟨N, 0, none⟩ = some (pV b) ∧ W.cell? ⟨N, 1, none⟩ = some (.string s)) mixed ⟨e0, e1⟩ (fun hHeld => ?_)
  refine goes_take (i := 0) (v := ?gv701) rfl (by kernel_rfl) (by kernel_rfl) (by kernel_rfl) (by kernel_rfl) (fun _ _ _ h => h) (Or.inl ⟨by rfl, ?gy701⟩) (by assumption) ?gr701
  case gy701 => (intro W9 hW9; obtain ⟨k0, k1⟩ := hW9; first | (go_simp; done) | (go_simp; with_reducible rfl))
  simp only [Act.put, List.getElem_toArray, List.getElem_cons_succ, List.getElem_cons_zero, List.setIfInBounds_toArray, List.set_cons_zero, List.set_cons_succ]
  refine goes_take (i := 1) (v := ?gv702) rfl (by kernel_rfl) (by kernel_rfl) (by kernel_rfl) (by kernel_rfl) (fun _ _ _ h => h) (Or.inl ⟨by rfl, ?gy702⟩) (by assumption) ?gr702
  case gy702 => (intro W9 hW9; obtain ⟨k0, k1⟩ := hW9; first | (go_simp; done) | (go_simp; with_reducible rfl))
  simp only [Act.put, List.getElem_toArray, List.getElem_cons_succ, List.getElem_cons_zero, List.setIfInBounds_toArray, List.set_cons_zero, List.set_cons_succ]
  refine goes_take (i := 2) (v := ?gv703) rfl (by kernel_rfl) (by kernel_rfl) (by kernel_rfl) (by kernel_rfl) (fun _ _ _ h => h) (Or.inl ⟨by rfl, ?gy703⟩) (by assumption) ?gr703
  case gy703 => (intro W9 hW9; obtain ⟨k0, k1⟩ := hW9; first | (go_simp; done) | (go_simp; with_reducible rfl))
  simp only [Act.put, List.getElem_toArray, List.getElem_cons_succ, List.getElem_cons_zero, List.setIfInBounds_toArray, List.set_cons_zero, List.set_cons_succ]
  refine goes_take (i := 3) (v := ?gv704) rfl (by kernel_rfl) (by kernel_rfl) (by kernel_rfl) (by kernel_rfl) (fun _ _ _ h => h) (Or.inl ⟨by rfl, ?gy704⟩) (by assumption) ?gr704
  case gy704 => (intro W9 hW9; obtain ⟨k0, k1⟩ := hW9; first | (go_simp; done) | (go_simp; with_reducible rfl))
  simp only [Act.put, List.getElem_toArray, List.getElem_cons_succ, List.getElem_cons_zero, List.setIfInBounds_toArray, List.set_cons_zero, List.set_cons_succ]
  refine goes_take (i := 4) (v := ?gv705) rfl (by kernel_rfl) (by kernel_rfl) (by kernel_rfl) (by kernel_rfl) (fun _ _ _ h => h) (Or.inl ⟨by rfl, ?gy705⟩) (by assumption) ?gr705
  case gy705 => (intro W9 hW9; obtain ⟨k0, k1⟩ := hW9; first | (go_simp; done) | (go_simp; with_reducible rfl))
  simp only [Act.put, List.getElem_toArray, List.getElem_cons_succ, List.getElem_cons_zero, List.setIfInBounds_toArray, List.set_cons_zero, List.set_cons_succ]
  refine goes_one (i := 5) (by kernel_rfl) rfl (fun K9 hK9 => ?_)
  go_simp
  refine (span_any i i w1.drew (by omega) (by omega)).mono ?_
  rintro e w3 ⟨a3, n3, c3, rfl, hr3, hb3⟩
  rw [add_nil (Int.le_refl i)] at hr3
  obtain ⟨k0, k1⟩ := hHeld
  refine hK9.out _ _ (fun _ => ⟨cell_below hb3 k0, cell_below hb3 k1⟩) (fun hHeld => ?_)
  have hHeld := hHeld (by decide)
  clear hK9 K9 k0 k1
  have hb13 : Below w1.heap.size w1 w3 := (Below.refl _ w1).drew.trans hb3
  have hp3 : Pre s mb (Loc X N (N + 2)) (.slice a3 n3 c3) [(i, i)] w3 :=
    ⟨hsz, fun k hk => .inl (HXM.out k hk), fun k hk => by have := hb13.size; rcases hk with h | h; (have := HXL.out k h; omega); omega, hr3.weak fun k _ hk => by
      show k < w1.heap.size
      rcases hk with h | h
      · have := HXL.out k h; omega
      · omega, .one (Int.le_refl i), fun z hz => by have := (one_run i i z).1 hz; omega, HM0.out.below hb13⟩
  have hfi := HFI.out
  have HC := Lib.hid (ends_any s mb p hfi.num (by have := hfi.small; omega) false b _ w3 (.slice a3 n3 c3) (pV b) [(i, i)] hp3 (HR1.out.below hb13).tree)
  clear hr3 hp3 hfi
  refine goes_one (i := 6) (by kernel_rfl) rfl (fun K9 hK9 => ?_)
  go_simp
  refine HC.out.mono ?_
  rintro e w4 ⟨a6, n6, c6, L6, rfl, hr6, he6, ho6, hm6⟩
  obtain ⟨k0, k1⟩ := hHeld
  refine hK9.out _ _ (fun _ => ⟨ho6.cell k0 (fun h => h hm0N), ho6.cell k1 (fun h => h hm0N)⟩) (fun hHeld => ?_)
  clear hK9 K9 k0 k1 hHeld
  have ho14 : Out (Xm mb) w1 w4 := (Out.below hb13).trans ho6
  have hr9 := (ho14.block (N + 1) (by omega) (fun h => h hm1N)).trans HBR.out
  have hc9 := box_cell hr9
  have hf9 := frozen_row (j := 0) hr9
  refine goes_one (i := 7) (by kernel_rfl) rfl (fun K9 hK9 => ?_)
  go_simp
  refine hK9.out _ _ (fun h => absurd rfl h) (fun _ => ?_)
  clear hK9 K9
  refine goes_done (by kernel_rfl) ?_ _
  have ho2 : Out (fun k => k = N + 1) w4 (w4.setCell ⟨N + 1, 0, none⟩ (.slice a6 n6 c6)) := Out.set (X := fun k => k = N + 1) w4 0 _ rfl
  have HF : Hid (EndsPost s p mb X i w (.returned (.agg #[.slice a6 n6 c6])) (w4.setCell ⟨N + 1, 0, none⟩ (.slice a6 n6 c6))) := Lib.hid
    ⟨a6, n6, c6, L6, rfl, (hr6.out ho2 (fun k _ e => by have e : k = N + 1 := e; exact .inr (by omega))).weak (fun _ _ h => .inl h), he6.nrm, he6.inn, fun x => by
      rw [he6.2.2]
      constructor
      · rintro ⟨y, h1, h2⟩
        have := (one_run i i y).1 h1
        obtain rfl : y = i := by omega
        exact ⟨hi0.1, hi0.2, h2⟩
      · rintro ⟨_, _, h2⟩
        exact ⟨i, (one_run i i i).2 ⟨Int.le_refl _, Int.le_refl _⟩, h2⟩, ((Out.below HB.out).trans ho14).comp ho2 (fun k h1 e => by have e : k = N + 1 := e; omega), (hm6.out ho2 (fun k _ e => by have e : k = N + 1 := e; rw [e]; exact ⟨.inr ⟨by omega, by omega⟩, hm1N⟩)).weak (fun _ _ h => .inl h)⟩
  clear ho2 ho14 hr6 he6 ho6 hm6 hr9 hf9 hb13 hb3 e0 e1 c0 c1 c2 f2
  go_wp2
  exact bodyPost_ret (v := .agg #[.slice a6 n6 c6]) (by simp [results, Tryd.results30, go_sem, *]) rfl HF.out
/-- What longest gives. -/
def LongPost (s : ByteArray) (p : Pat) (mb : Nat → Option Pat) (b : Nat) (X : Nat → Prop) (i : Int) (w : World) (e : Ending) (w' : World) : Prop := ∃ z ok, e = .returned (.tuple #[.int .i64 z, .bool ok]) ∧ LongR s p i z ok ∧ Out (Xm mb) w w' ∧ Ready s p mb b X w'
theorem last_long {s : ByteArray} {p : Pat} {i : Int} {L : List (Int × Int)} {v : Value} {X : Nat → Prop} {w : World} (hsz : s.size ≤ 90) (hr : Rn w X v L) (hN : Nrm L) (hI : In s.size L) (hx : ∀ x, mem L x ↔ 0 ≤ i ∧ i ≤ s.size ∧ p.M s i x) :
    ∃ z ok, LongR s p i z ok ∧ Calls Tryd.prog 33 #[.agg #[v]] w fun e w' => e = .returned (.tuple #[.int .i64 z, .bool ok]) ∧ Below w.heap.size w w' := by
  refine ⟨_, _, ?_, last_any L v X w (by have := hI.small hN (by omega) (by omega); omega) hr⟩
  by_cases h0 : L = []
  · rw [if_pos h0]
    refine .inr ⟨by simp [h0], rfl, fun x h1 h2 h3 => ?_⟩
    have := (hx x).2 ⟨h1, h2, h3⟩
    rw [h0] at this
    simp [mem] at this
  · rw [if_neg h0]
    obtain ⟨h1, h2⟩ := last_good hN h0
    obtain ⟨h3, h4, h5⟩ := (hx _).1 h1
    exact .inl ⟨by simpa using h0, h3, h4, h5, fun x hx' => h2 x ((hx x).2 ⟨h3, h4, hx'⟩)⟩
set_option maxHeartbeats 2000000 in
theorem longest_any (s : ByteArray) (p : Pat) (mb : Nat → Option Pat) (b : Nat) (X : Nat → Prop) (i : Int) (w : World) (hf : Fine s p) (hr : Ready s p mb b X w) (hi : -1000 ≤ i ∧ i ≤ 1000) :
    Calls Tryd.prog 27 #[mV (pV b) s, .int .i64 i] w (LongPost s p mb b X i w) := by
  have hb1 := below_one w (.cells #[pV b, .string s] 53)
  have HC := Lib.hid (endsFrom_any s p mb b X i _ hf (hr.below hb1) hi)
  have HR := Lib.hid hr
  have HB := Lib.hid hb1
  have hsz := hf.sz
  clear hf hr hb1
  go_enter Tryd.func27, Tryd.ntmps27
  go_wp2_with (first
    | (go_at_call 30; refine HC.out.mono ?_; rintro e w3 ⟨a3, n3, c3, L3, rfl, hr3, hN3, hI3, hx3, ho3, hm3⟩; obtain ⟨z, ok, hlr, hcall⟩ := last_long hsz hr3 hN3 hI3 hx3; have HCA := Lib.hid hcall; have HLR := Lib.hid hlr; have HX3 := Lib.hid (And.intro ho3 hm3); clear hr3 hN3 hI3 hx3 ho3 hm3 hlr hcall)
    | (go_at_call 33; refine HCA.out.mono ?_; rintro e w4 ⟨rfl, hb4⟩))
  have ho : Out (Xm mb) w w4 := ((Out.below HB.out).trans HX3.out.1).trans (Out.below hb4)
  exact bodyPost_ret (v := .tuple #[.int .i64 z, .bool ok]) (by simp [results, Tryd.results27, go_sem, *]) rfl ⟨z, ok, rfl, HLR.out, ho, HR.out.out ho (HX3.out.2.below hb4)⟩
/-- What Longest gives. -/
def LongP (s : ByteArray) (p : Pat) (i : Int) (w : World) (e : Ending) (w' : World) : Prop := ∃ z ok, e = .returned (.tuple #[.int .i64 z, .bool ok]) ∧ LongR s p i z ok ∧ Below w.heap.size w w'
theorem Out.fresh {mb : Nat → Option Pat} {n : Nat} {w w' : World} (ho : Out (Xm mb) w w') (hx : ∀ m, Xm mb m → n ≤ m) (hn : n ≤ w.heap.size) : Below n w w' := ho.to_below (fun k _ h => hx k h) hn
set_option maxHeartbeats 2000000 in
theorem Longest_any (s : ByteArray) (p : Pat) (ks : Value) (i : Int) (w : World) (hf : Fine s p) (hk : Kids w p.kids ks) (hi : -1000 ≤ i ∧ i ≤ 1000) :
    Calls Tryd.prog 20 #[(.agg #[.int .i64 p.op, .int .u64 (wd p.set 0), .int .u64 (wd p.set 1), .int .u64 (wd p.set 2), .int .u64 (wd p.set 3), .int .i64 p.lo, .int .i64 p.hi, ks]), .string s, .int .i64 i] w (LongP s p i w) := by
  obtain ⟨a, cap, rfl⟩ := hk.len
  have hb1 := below_one w (.cells #[.int .i64 p.op, .int .u64 (wd p.set 0), .int .u64 (wd p.set 1), .int .u64 (wd p.set 2), .int .u64 (wd p.set 3), .int .i64 p.lo, .int .i64 p.hi, .slice a p.kids.length cap] 28)
  have HC := Lib.hid (newMatcher_any s p (.slice a p.kids.length cap) _ hf (hk.below hb1))
  have HB := Lib.hid hb1
  have HF := Lib.hid hf
  clear hf hk hb1
  go_enter Tryd.func20, Tryd.ntmps20
  go_wp2_with (first
    | (go_at_call 26; refine HC.out.mono ?_; rintro e w3 ⟨b, mb, rfl, hb3, hr3, hx3⟩; have HL := Lib.hid (longest_any s p mb b (Xm mb) i w3 HF.out hr3 hi); have HX := Lib.hid (And.intro hb3 hx3); clear hb3 hr3 hx3)
    | (go_at_call 27; refine HL.out.mono ?_; rintro e w4 ⟨z, ok, rfl, hlr, ho4, _⟩; have HO := Lib.hid (And.intro hlr ho4); clear hlr ho4))
  have hbb : Below w.heap.size w w4 := by
    have h1 := HB.out.trans (HX.out.1.mono HB.out.size)
    exact h1.trans (HO.out.2.fresh (fun m hx => by have := HX.out.2 m hx; have := HB.out.size; omega) h1.size)
  exact bodyPost_ret (v := .tuple #[.int .i64 z, .bool ok]) (by simp [results, Tryd.results20, go_sem, *]) rfl ⟨z, ok, rfl, HO.out.1, hbb⟩
theorem whole_of {s : ByteArray} {p : Pat} {z : Int} {ok : Bool} (h : LongR s p 0 z ok) : (ok && decide (z = s.size)) = true ↔ p.M s 0 s.size := by
  rcases h with ⟨rfl, _, h0, h1, h2⟩ | ⟨rfl, _, h3⟩
  · simp only [Bool.true_and, decide_eq_true_eq]
    have h4 := M_mono s p 0 z h1 (Int.le_refl _) h0
    exact ⟨fun e => e ▸ h1, fun h => by have := h2 _ h; omega⟩
  · simp only [Bool.false_and, Bool.false_eq_true, false_iff]
    exact h3 _ (Int.le_refl _) (by omega)
/-- What Whole gives. -/
def WholeP (s : ByteArray) (p : Pat) (w : World) (e : Ending) (w' : World) : Prop := ∃ r : Bool, e = .returned (.bool r) ∧ (r = true ↔ p.M s 0 s.size) ∧ Below w.heap.size w w'
set_option maxHeartbeats 2000000 in
theorem Whole_any (s : ByteArray) (p : Pat) (ks : Value) (w : World) (hf : Fine s p) (hk : Kids w p.kids ks) :
    Calls Tryd.prog 14 #[(.agg #[.int .i64 p.op, .int .u64 (wd p.set 0), .int .u64 (wd p.set 1), .int .u64 (wd p.set 2), .int .u64 (wd p.set 3), .int .i64 p.lo, .int .i64 p.hi, ks]), .string s] w (WholeP s p w) := by
  obtain ⟨a, cap, rfl⟩ := hk.len
  have hb1 := below_one w (.cells #[.int .i64 p.op, .int .u64 (wd p.set 0), .int .u64 (wd p.set 1), .int .u64 (wd p.set 2), .int .u64 (wd p.set 3), .int .i64 p.lo, .int .i64 p.hi, .slice a p.kids.length cap] 28)
  have HC := Lib.hid (Longest_any s p (.slice a p.kids.length cap) 0 _ hf (hk.below hb1) (by omega))
  have HB := Lib.hid hb1
  clear hf hk hb1
  go_enter Tryd.func14, Tryd.ntmps14
  go_wp2_with (go_at_call 20; refine HC.out.mono ?_; rintro e w3 ⟨z, ok, rfl, hlr, hb3⟩; have HLR := Lib.hid (And.intro (whole_of hlr) hb3); clear hlr hb3; rcases ok with _ | _)
  · exact bodyPost_ret (v := .bool false) (by simp [results, Tryd.results14, go_sem, *]) rfl ⟨false, rfl, by have := HLR.out.1; rwa [Bool.false_and] at this, HB.out.trans (HLR.out.2.mono HB.out.size)⟩
  · refine bodyPost_ret (v := .bool (z == s.size)) (by simp [results, Tryd.results14, go_sem, *]) rfl ⟨z == s.size, rfl, ?_, HB.out.trans (HLR.out.2.mono HB.out.size)⟩
    have := HLR.out.1
    rw [Bool.true_and] at this
    rw [← this]
    simp
end Go.Proofs.YtooaamepflkgnaaDoor
set_option maxRecDepth 100000
namespace Go.Proofs.YtooaamepflkgnaaDoor
open Go.RowKit

theorem LongR.none {s : ByteArray} {p : Pat} {i z : Int} (h : LongR s p i z false) : z = 0 ∧ ∀ x, 0 ≤ i → i ≤ s.size → ¬ p.M s i x := by
  rcases h with ⟨h, _⟩ | ⟨_, h⟩
  · cases h
  · exact h
theorem LongR.some {s : ByteArray} {p : Pat} {i z : Int} (h : LongR s p i z true) : 0 ≤ i ∧ i ≤ s.size ∧ p.M s i z ∧ ∀ x, p.M s i x → x ≤ z := by
  rcases h with ⟨_, h⟩ | ⟨h, _⟩
  · exact h
  · cases h
theorem LongR.same {s : ByteArray} {p : Pat} {i z z' : Int} {ok ok' : Bool} (h : LongR s p i z ok) (h' : LongR s p i z' ok') : z = z' ∧ ok = ok' := by
  rcases h with ⟨rfl, h0, h1, h2, h3⟩ | ⟨rfl, rfl, h3⟩ <;> rcases h' with ⟨rfl, g0, g1, g2, g3⟩ | ⟨rfl, rfl, g3⟩
  · have := h3 _ g2; have := g3 _ h2; exact ⟨by omega, rfl⟩
  · exact absurd h2 (g3 _ h0 h1)
  · exact absurd g2 (h3 _ g0 g1)
  · exact ⟨rfl, rfl⟩
/-- From a place on: the first place from which a pattern matches. -/
def FirstR (s : ByteArray) (p : Pat) (i c z : Int) (ok : Bool) : Prop := (ok = true ∧ max i 0 ≤ c ∧ c ≤ s.size ∧ LongR s p c z true ∧ ∀ j, max i 0 ≤ j → j < c → ∀ x, ¬ p.M s j x) ∨ (ok = false ∧ c = 0 ∧ z = 0 ∧ ∀ j, max i 0 ≤ j → j ≤ s.size → ∀ x, ¬ p.M s j x)
def FirstP (s : ByteArray) (p : Pat) (i : Int) (w : World) (e : Ending) (w' : World) : Prop := ∃ c z ok, e = .returned (.tuple #[.int .i64 c, .int .i64 z, .bool ok]) ∧ FirstR s p i c z ok ∧ Below w.heap.size w w'
set_option maxHeartbeats 2000000 in
theorem First_any (s : ByteArray) (p : Pat) (ks : Value) (i : Int) (w : World) (hf : Fine s p) (hk : Kids w p.kids ks) :
    Calls Tryd.prog 9 #[(.agg #[.int .i64 p.op, .int .u64 (wd p.set 0), .int .u64 (wd p.set 1), .int .u64 (wd p.set 2), .int .u64 (wd p.set 3), .int .i64 p.lo, .int .i64 p.hi, ks]), .string s, .int .i64 i] w (FirstP s p i w) := by
  obtain ⟨a, cap, rfl⟩ := hk.len
  have hb1 := below_one w (.cells #[.int .i64 p.op, .int .u64 (wd p.set 0), .int .u64 (wd p.set 1), .int .u64 (wd p.set 2), .int .u64 (wd p.set 3), .int .i64 p.lo, .int .i64 p.hi, .slice a p.kids.length cap] 28)
  have HC := Lib.hid (newMatcher_any s p (.slice a p.kids.length cap) _ hf (hk.below hb1))
  have HB := Lib.hid hb1
  have HF := Lib.hid hf
  have hsz := hf.sz
  obtain ⟨i0, hi0⟩ : ∃ i0, max i 0 = i0 := ⟨_, rfl⟩
  have hge : 0 ≤ i0 := by omega
  have HI := Lib.hid hi0
  clear hf hk hb1
  go_enter Tryd.func9, Tryd.ntmps9
  go_wp2_with (go_at_call 26; refine HC.out.mono ?_; rintro e w3 ⟨b, mb, rfl, hb3, hr3, hx3⟩; have HX := Lib.hid (And.intro hb3 (And.intro hr3 hx3)); clear hb3 hr3 hx3)
  obtain ⟨nb, hnb⟩ : ∃ nb, w3.heap.size = nb := ⟨_, rfl⟩
  obtain ⟨w4, hw4⟩ : ∃ w4, w3.alloc (.cells #[pV b, .string s] 53) = w4 := ⟨_, rfl⟩
  have hb4 : Below w3.heap.size w3 w4 := by rw [← hw4]; exact below_one w3 _
  have hbm : w4.heap[nb]? = some (.cells #[pV b, .string s] 53 (0, 0)) := by rw [← hw4, ← hnb]; exact heap_alloc_new w3 _
  have HR4 := Lib.hid (HX.out.2.1.below hb4)
  have HBM := Lib.hid hbm
  have HBX : Hid (∀ wr, Out (Xm mb) w4 wr → Below w.heap.size w wr) := Lib.hid fun wr ho => by
    have h1 := (HB.out.trans (HX.out.1.mono HB.out.size)).trans (hb4.mono (Nat.le_trans HB.out.size HX.out.1.size))
    exact h1.trans (ho.fresh (fun m hx => by have := HX.out.2.2 m hx; have := HB.out.size; omega) h1.size)
  rw [hw4, hnb]
  clear hw4 hb4 hbm
  go_loopw [10] (fun x wr => ∃ c : Int, x = .int .i64 c ∧ i0 ≤ c ∧ Ready s p mb b (Xm mb) wr ∧ Out (Xm mb) w4 wr ∧ Hid (∀ j, i0 ≤ j → j < c → ∀ x, ¬ p.M s j x)) (fun x _ => (s.size + 1 - intOf x).toNat)
  case atStart => exact ⟨i0, rfl, Int.le_refl _, HR4.out, Out.refl _ _, Lib.hid fun j h1 h2 => by omega⟩
  case round =>
    obtain ⟨c, rfl, hc, hrr, hor, HNO⟩ := hrel
    have hbr := (hor.block nb (lt_of_block HBM.out) (HR4.out.memo.not_cells HBM.out rfl)).trans HBM.out
    obtain ⟨c0, c1⟩ := pair_cells hbr
    by_cases hcl : c ≤ s.size
    · have hd : decide (c ≤ s.size) = true := by simpa using hcl
      have HL := Lib.hid (longest_any s p mb b (Xm mb) c wr HF.out hrr (by omega))
      have HOR := Lib.hid hor
      clear hrr hor hbr
      go_wp2_with (go_at_call 27; refine HL.out.mono ?_; rintro e w5 ⟨z, ok, rfl, hlr, ho5, hr5⟩; have H5 := Lib.hid (And.intro hlr (And.intro ho5 hr5)); clear hlr ho5 hr5; rcases ok with _ | _)
      · go_roundw
        case rel => exact ⟨c + 1, rfl, by omega, H5.out.2.2, HOR.out.trans H5.out.2.1, Lib.hid fun j h1 h2 => by
          by_cases h3 : j < c
          · exact HNO.out j h1 h3
          · obtain rfl : j = c := by omega
            exact fun x => H5.out.1.none.2 x (by omega) hcl⟩
        case measure => simp [intOf]; omega
      · exact bodyPost_ret (v := .tuple #[.int .i64 c, .int .i64 z, .bool true]) (by simp [results, Tryd.results9, go_sem, *]) rfl ⟨c, z, true, rfl, .inl ⟨rfl, by rw [HI.out]; exact hc, hcl, H5.out.1, by rw [HI.out]; exact HNO.out⟩, HBX.out w5 (HOR.out.trans H5.out.2.1)⟩
    · have hd : decide (c ≤ s.size) = false := by simpa using hcl
      have HOR := Lib.hid hor
      clear hrr hor hbr
      go_wp2
      exact bodyPost_ret (v := .tuple #[.int .i64 0, .int .i64 0, .bool false]) (by simp [results, Tryd.results9, go_sem, *]) rfl ⟨0, 0, false, rfl, .inr ⟨rfl, rfl, rfl, by rw [HI.out]; exact fun j h1 h2 => HNO.out j h1 (by omega)⟩, HBX.out wr HOR.out⟩
end Go.Proofs.YtooaamepflkgnaaDoor
set_option maxRecDepth 100000
namespace Go.Proofs.YtooaamepflkgnaaDoor
open Go.RowKit Go.Shelf
attribute [local go_sem] Oper.semAt_some

theorem infoInt : (Tryd.prog.info? 3).map (fun i => (i.zero, i.size, i.bytes)) = some (some (.int .i64 0), 1, 8) := by kernel_rfl
/-- Numbers collected in a variable's row. -/
def CollI (bp : Nat) (w0 : World) (pre : List Int) (W : World) : Prop := ∃ v, Boxed W bp 46 v ∧ W.ownsRow (bp + 1) 3 1 v pre.length (pre.map (Value.int .i64)) ∧ Below bp w0 W
theorem CollI.own {K : List (Int × Int)} {bp : Nat} {w0 : World} {B : Nat} (hB : bp < B) (hw : bp ≤ w0.heap.size) : OwnFrom B (fun (pre : List (Of K)) W => CollI bp w0 (pre.map (·.1)) W) := by
  rintro pre W W' row ⟨v, hv, hr, hb⟩ hg hrow
  obtain ⟨v', h1, h2, _⟩ := holdsRow_own (bp + 1) bp 46 3 1 (fun (pre : List (Of K)) => (pre.map (·.1)).length) (fun pre => (pre.map (·.1)).map (Value.int .i64)) (fun _ _ => True) pre W W' row ⟨v, hv, hr, trivial⟩ hg (fun r e => (hrow r e).2)
  exact ⟨v', h1, h2, hb.grown hg (Nat.le_trans hw hb.size) (fun k e => by have := (hrow k e).1; omega)⟩
/-- Behind an append to the row and a store of it. -/
theorem keepV_push {bp g n cap : Nat} {W w1 : World} {v : Value} {xs ys : List Value} {x : Value} (hv : Boxed W bp 46 v) (hrow : W.ownsRow (bp + 1) 3 1 v n xs) (hg : (W.alloc (.cells #[x] 3)).grownBy w1 v.ownBlock)
    (hown : w1.ownsRow (bp + 1) 3 1 (.slice (some ⟨g, 0, none⟩) (n + 1) cap) (n + 1) ys) (hat : v.ownBlock = some g ∨ g = W.heap.size + 1) :
    Boxed (w1.setCell ⟨bp, 0, none⟩ (.slice (some ⟨g, 0, none⟩) (n + 1) cap)) bp 46 (.slice (some ⟨g, 0, none⟩) (n + 1) cap) ∧ (w1.setCell ⟨bp, 0, none⟩ (.slice (some ⟨g, 0, none⟩) (n + 1) cap)).ownsRow (bp + 1) 3 1 (.slice (some ⟨g, 0, none⟩) (n + 1) cap) (n + 1) ys ∧
      KeepsOthers W (w1.setCell ⟨bp, 0, none⟩ (.slice (some ⟨g, 0, none⟩) (n + 1) cap)) ∧ Below bp W (w1.setCell ⟨bp, 0, none⟩ (.slice (some ⟨g, 0, none⟩) (n + 1) cap)) ∧ KeepV bp (fun _ => False) W (w1.setCell ⟨bp, 0, none⟩ (.slice (some ⟨g, 0, none⟩) (n + 1) cap)) ∧ w1.cell? ⟨bp, 0, none⟩ = some v ∧ w1.frozen? ⟨bp, 0, none⟩ = false := by
  have hlt : ∀ c, v.ownBlock = some c → bp + 1 ≤ c ∧ c < W.heap.size := fun c e => hrow.lt c e
  have hbW := hv.lt
  have hs1 := hg.size
  simp only [World.size_alloc] at hs1
  have hsame : ∀ c, c < W.heap.size → some c ≠ v.ownBlock → w1.heap[c]? = W.heap[c]? := fun c h1 h2 => (hg.block c (by simp; omega) (fun e => h2 e)).trans (heap_alloc_old W _ h1)
  have hv1 : Boxed w1 bp 46 v := (hsame bp hbW (fun e => by have := hlt _ e.symm; omega)).trans hv
  have hgw1 := (hown.lt g rfl).2
  have e0 : ownAt W bp = v.ownBlock := by unfold ownAt; rw [hv.cell]; rfl
  have e1 : ownAt (w1.setCell ⟨bp, 0, none⟩ (.slice (some ⟨g, 0, none⟩) (n + 1) cap)) bp = some g := by unfold ownAt; rw [(hv1.set _).cell]; rfl
  refine ⟨hv1.set _, ownsRow_setCell_below hown (a := ⟨bp, 0, none⟩) (by show bp < bp + 1; omega) _, ?_, ?_, ?_, hv1.cell, hv1.frozen⟩
  · refine ⟨by simp; omega, fun k o hk hc => ?_⟩
    have hne : k ≠ bp := fun e => by subst e; rw [show W.heap[k]? = _ from hv] at hk; cases hk; cases hc
    have hno : some k ≠ v.ownBlock := fun e => by
      rcases hrow.2 with ⟨rfl, _⟩ | ⟨g', cap', cur, rfl, _, hgb, _⟩
      · simp [Value.ownBlock] at e
      · have e : k = g' := by simpa [Value.ownBlock] using e
        subst e
        rw [hgb] at hk; cases hk; cases hc
    rw [Below.heap_setCell _ _ _ _ (by show k ≠ bp; exact hne)]
    exact (hsame k (lt_of_block hk) hno).trans hk
  · exact ⟨hg.os, hg.tape, hg.output, by simp; omega, fun c hc => (Below.heap_setCell _ _ _ _ (by show c ≠ bp; omega)).trans (hsame c (by omega) (fun e => by have := hlt _ e.symm; omega))⟩
  · refine ⟨hg.os, hg.tape, hg.output, by simp; omega, fun k o hk _ hb => ?_, fun c hc => ?_, fun _ c hc => ?_⟩
    · rw [Below.heap_setCell _ _ _ _ (by show k ≠ bp; exact fun e => hb (.inl e))]
      exact (hsame k (lt_of_block hk) (fun e => hb (.inr (.inl (by rw [e0]; exact e.symm))))).trans hk
    · rw [e1] at hc; cases hc
      rw [e0]
      rcases hat with h | h
      · exact .inl h
      · exact .inr (by omega)
    · rw [e1] at hc; cases hc
      simp; exact hgw1
/-- What Ends gives. -/
def EndsP (s : ByteArray) (p : Pat) (i : Int) (w : World) (e : Ending) (w' : World) : Prop := ∃ v L, e = .returned v ∧ RdV w' v ((ints L).map (Value.int .i64)) ∧ Nrm L ∧ In s.size L ∧ (∀ x, mem L x ↔ 0 ≤ i ∧ i ≤ s.size ∧ p.M s i x) ∧ Below w.heap.size w w'
theorem rdv_row {w : World} {base n : Nat} {v : Value} {l : List Value} (h : w.ownsRow base 3 1 v n l) (hn : l.length = n) : RdV w v l := by
  subst hn
  rcases h.2 with ⟨rfl, e⟩ | ⟨g, cap, cur, rfl, _, hgb, hnc, _, _, hct⟩
  · have : l = [] := List.eq_nil_of_length_eq_zero (by simpa using e)
    subst this
    exact .inl ⟨rfl, rfl⟩
  · refine .inr ⟨g, 0, cap, rfl, fun i hi => ?_⟩
    rw [cell_of_row w g _ _ _ _ hgb, Nat.zero_add]
    have h1 : (cur.toList.take (l.length * 1))[i]? = some l[i] := by rw [hct, List.getElem?_eq_getElem hi]
    rw [List.getElem?_take] at h1
    split at h1
    · simpa using h1
    · cases h1
set_option linter.unusedSimpArgs false in
set_option maxHeartbeats 2000000 in
theorem Ends_any (s : ByteArray) (p : Pat) (ks : Value) (i : Int) (w : World) (hf : Fine s p) (hk : Kids w p.kids ks) (hi : -1000 ≤ i ∧ i ≤ 1000) :
    Calls Tryd.prog 22 #[(.agg #[.int .i64 p.op, .int .u64 (wd p.set 0), .int .u64 (wd p.set 1), .int .u64 (wd p.set 2), .int .u64 (wd p.set 3), .int .i64 p.lo, .int .i64 p.hi, ks]), .string s, .int .i64 i] w (EndsP s p i w) := by
  obtain ⟨a, cap, rfl⟩ := hk.len
  obtain ⟨N, hN⟩ : ∃ N, w.heap.size = N := ⟨_, rfl⟩
  obtain ⟨i0, hi0, hz0, hz1, hz2⟩ := info_parts infoInt
  obtain ⟨w1, hw1⟩ : ∃ w1, w1 = (w.alloc (.cells #[.int .i64 p.op, .int .u64 (wd p.set 0), .int .u64 (wd p.set 1), .int .u64 (wd p.set 2), .int .u64 (wd p.set 3), .int .i64 p.lo, .int .i64 p.hi, .slice a p.kids.length cap] 28)).alloc (.cells #[.slice none 0 0] 46) := ⟨_, rfl⟩
  have hb1 : Below w.heap.size w w1 := by rw [hw1]; exact below2 w _ _
  have hsz1 : w1.heap.size = N + 2 := by rw [hw1]; simp [hN]
  have hbl : Boxed w1 (N + 1) 46 (.slice none 0 0) := by
    have := heap_alloc_new (w.alloc (.cells #[.int .i64 p.op, .int .u64 (wd p.set 0), .int .u64 (wd p.set 1), .int .u64 (wd p.set 2), .int .u64 (wd p.set 3), .int .i64 p.lo, .int .i64 p.hi, .slice a p.kids.length cap] 28)) (.cells #[.slice none 0 0] 46)
    rw [World.size_alloc, hN] at this
    rw [hw1]; exact this
  have HC := Lib.hid (newMatcher_any s p (.slice a p.kids.length cap) w1 hf (hk.below hb1))
  have HW := Lib.hid hw1
  have HB := Lib.hid hb1
  have HBL := Lib.hid hbl
  have HF := Lib.hid hf
  have HI := Lib.hid (And.intro hi0 (And.intro hz0 (And.intro hz1 hz2)))
  have hsz := hf.sz
  clear hf hk hb1 hw1 hbl hi0 hz0 hz1 hz2
  refine (callsIn_wide (n := 3)).1 ?_
  refine callsIn_of_wp_marks Tryd.func22 rfl trivial ?_ rfl
  simp only [Tryd.ntmps22, List.size_toArray, List.length_cons, List.length_nil, Nat.reduceAdd, Nat.reduceSub, Array.replicate_succ, Array.replicate_zero, List.push_toArray, List.append_toArray, List.nil_append, List.cons_append]
  gi_wp2_with (first
    | (refine ⟨trivial, ?_⟩; gi_at_call 26; rw [← HW.out]; refine (callsIn_wide.2 HC.out).mono ?_; rintro e w3 ⟨b, mb, rfl, hb3, hr3, hx3⟩; have HE := Lib.hid (endsFrom_any s p mb b (Xm mb) i w3 HF.out hr3 hi); have HX := Lib.hid (And.intro hb3 hx3); clear hb3 hr3 hx3)
    | (refine ⟨trivial, ?_⟩; gi_at_call 30; refine (callsIn_wide.2 HE.out).mono ?_; rintro e w4 ⟨a4, n4, c4, L, rfl, hr4, hN4, hI4, hx4, ho4, _⟩; have HR4 := Lib.hid hr4; have HL := Lib.hid (And.intro hN4 (And.intro hI4 (And.intro hx4 ho4))); clear hr4 hN4 hI4 hx4 ho4)
    | (refine ⟨trivial, ?_⟩; gi_at_call 31; refine (callsIn_wide.2 (all_any (.slice a4 n4 c4) L _ w4 HR4.out)).mono ?_; rintro e w5 ⟨rfl, hw5⟩; have HW5 := Lib.hid hw5; clear hw5))
  obtain ⟨bs, hbs⟩ : ∃ bs, w4.heap.size = bs := ⟨_, rfl⟩
  obtain ⟨hN4, hI4, hx4, ho4⟩ := HL.out
  have hb45 : Below w4.heap.size w4 w5 := by rw [HW5.out]; exact below_one w4 _
  have hnb : w5.heap[bs]? = some (.cells #[.slice a4 n4 c4] 61 (0, 0)) := by rw [HW5.out, ← hbs]; exact heap_alloc_new w4 _
  have hb34 : Below w1.heap.size w3 w4 := ho4.fresh (fun m hx => HX.out.2 m hx) HX.out.1.size
  have hb15 : Below w1.heap.size w1 w5 := (HX.out.1.trans hb34).trans (hb45.mono (by have := HX.out.1.size; have := hb34.size; omega))
  have hs5 := hb15.size
  have hsz5 : w5.heap.size = bs + 1 := by rw [HW5.out]; simp [hbs]
  have hbl5 : Boxed w5 (N + 1) 46 (.slice none 0 0) := (hb15.block (N + 1) (by omega)).trans HBL.out
  have e5 : ownAt w5 (N + 1) = none := by unfold ownAt; rw [hbl5.cell]; rfl
  have hrn5 : Rn w5 (Bad (N + 1) (fun _ => False) w5) (.slice a4 n4 c4) L := by
    have h1 := HR4.out
    rcases h1 with h1 | ⟨gb, go, gc, ge, gle, gn, gr⟩
    · exact .inl h1
    · refine .inr ⟨gb, go, gc, ge, gle, fun h0 hbad => ?_, fun j hj => ⟨cell_below hb45 (gr j hj).1, cell_below hb45 (gr j hj).2⟩⟩
      have hc0 := (gr 0 (List.length_pos_iff.2 h0)).1
      rcases hbad with e | e | e
      · subst e
        have := (hb34.block (N + 1) (by omega)).trans ((HX.out.1.block (N + 1) (by omega)).trans HBL.out)
        have h9 := hc0
        unfold World.cell? at h9
        rw [this] at h9
        have h10 : go + 0 * 2 = 0 ∨ 0 < go + 0 * 2 := by omega
        rcases h10 with h10 | h10
        · simp [h10] at h9
        · simp at h9
          have : go = 0 := by
            rcases go with _ | go
            · rfl
            · simp at h9
          omega
      · rw [e5] at e; cases e
      · exact e
  have hstop := all_stops 2 (by omega) bs (N + 1) 91 (fun _ => False) (.slice a4 n4 c4) L w5 hnb ⟨hbl5.lt, fun k hk => by
      rcases hk with e | e | e
      · have := hbl5.lt; omega
      · rw [e5] at e; cases e
      · exact e.elim⟩ hrn5 (hI4.bd hN4 (by omega)) hN4 (by have := hI4.ints hN4 (by omega); omega) (hI4.small hN4 (by omega) (by omega))
  have HST := Lib.hid hstop
  have HB15 := Lib.hid hb15
  have HBL5 := Lib.hid hbl5
  rw [hbs]
  clear hN4 hI4 hx4 ho4 hb45 hnb hb34 hb15 e5 hrn5 hstop hbl5
  refine wpIn_rangeFunc_ownH rfl (by omega) (gf := 38) (lb := #[.pointer (some ⟨bs, 0, none⟩)]) rfl trivial (enters_of Tryd.func38 (by kernel_rfl) rfl)
    HST.out KeepV.trans (fun W l o o' h1 h2 h3 h4 => keepV_b (n₀ := w5.heap.size) (by omega) W l o o' h1 h2 h3 h4) (Below.refl _ _) (fun _ => rfl)
    (fun pre W => CollI (N + 1) w5 (pre.map (·.1)) W) (fun _ _ _ => False)
    (CollI.own (by omega) (by omega)) (fun _ _ _ _ _ h _ _ => h)
    ⟨_, HBL5.out, World.ownsRow_nil _ _ _ _, Below.refl _ _⟩
    (fun x a' _ => a' = { tmps := #[(.agg #[.int .i64 p.op, .int .u64 (wd p.set 0), .int .u64 (wd p.set 1), .int .u64 (wd p.set 2), .int .u64 (wd p.set 3), .int .i64 p.lo, .int .i64 p.hi, .slice a p.kids.length cap]), .string s, .int .i64 i, pV N, undef, undef, .slice none 0 0, pV (N + 1), .int .i64 x.1, (.agg #[.int .i64 p.op, .int .u64 (wd p.set 0), .int .u64 (wd p.set 1), .int .u64 (wd p.set 2), .int .u64 (wd p.set 3), .int .i64 p.lo, .int .i64 p.hi, .slice a p.kids.length cap]), .string s, mV (pV b) s, .int .i64 i, .agg #[.slice a4 n4 c4], .func (.func 38) #[] #[pV bs], .int .i64 x.1, undef, undef, undef, undef, undef], defers := [] }) (fun x a' _ X Y row hs hg hr => hs)
    ?assign ?body ?done ?stop
  case assign =>
    rintro l pre x W K' hI hK
    gi_wp2
    exact hK _ _ (KeepsFrom.refl _ _) (KeepV.below (Below.refl _ _) (by obtain ⟨_, hv, _⟩ := hI; exact hv.lt)) hI rfl
  case body =>
    rintro l pre x a' W hl ⟨r, hr⟩ ⟨v, hv, hrow, hb⟩ rfl hlt
    obtain ⟨ps, hps⟩ : ∃ ps, pre.map (·.1) = ps := ⟨_, rfl⟩
    have hlen : ps.length < 91 := by rw [← hps]; simpa using hlt
    rw [hps] at hrow
    have hsW := hb.size
    have hcv := hv.cell
    have HV := Lib.hid hv
    have HROW := Lib.hid hrow
    have HBW := Lib.hid hb
    have hxb := HL.out.2.1 x.1 x.2
    clear hv hrow hb
    gi_wp2_with (gi_at_builtin; refine wpListIn_plain rfl fun K9 hK9 => wp_round (fun c h => by cases h) (wp_append_lies _ _ _ 46 rfl (N + 1 + 1) 3 i0 (.int .i64 0) 1 8 Tryd.underlying46 HI.out.1 HI.out.2.1 HI.out.2.2.1 HI.out.2.2.2 rfl (by decide) v ps.length (ps.map (Value.int .i64)) rfl (HROW.out.alloc _) ⟨W.heap.size, 0, none⟩ 1 1 [.int .i64 x.1] rfl rfl (fun j u hj => World.news_of_block (heap_alloc_new W (.cells #[.int .i64 x.1] 3)) j u (by simpa using hj)) (by simp [Value.oneCell']) (by omega) (by unfold maxLen; omega) (by omega) (by simp; omega) (W.heap.size + 1) (by simp) (fun g cap2 w7 h2 h3 h4 h5 => ?_)); obtain ⟨k1, k2, k3, k4, k5, k6, k7⟩ := keepV_push HV.out HROW.out h3 h2 h4; have HK := Lib.hid (And.intro k1 (And.intro k2 (And.intro k3 (And.intro k4 k5)))); clear k1 k2 k3 k4 k5 h2 h3 h4 h5; refine hK9 _ _ ?_; clear hK9)
    obtain ⟨k1, k2, k3, k4, k5⟩ := HK.out
    refine ⟨k3.from _, k5, _, k1, ?_, HBW.out.trans k4⟩
    simp only [List.map_append, List.map_cons, List.map_nil, List.length_append, List.length_cons, List.length_nil, hps]
    exact k2
  case done =>
    rintro D ys W hD hys ⟨v, hv, hrow, hb⟩ hK
    have hc := hv.cell
    gi_wp2
    refine ⟨by simp, .inl ⟨_, _, rfl, run_takeDeferred hK, ?_⟩⟩
    refine ⟨_, results_tmp rfl _ _ _, v, L, rfl, ?_, HL.out.1, HL.out.2.1, HL.out.2.2.1, ?_⟩
    · rw [← hys]
      exact rdv_row (ownsRow_putObj hrow _ hK rfl) (by simp)
    · have h1 : Below w.heap.size w1 W := (HB15.out.mono (by omega)).trans (hb.mono (by omega))
      exact (HB.out.trans h1).trans (belowK_b (w := w) (Nat.le_refl _) W D _ _ (by omega) hK rfl rfl)
  case stop =>
    rintro D c pre W _ _ h _
    exact h.elim
end Go.Proofs.YtooaamepflkgnaaDoor
