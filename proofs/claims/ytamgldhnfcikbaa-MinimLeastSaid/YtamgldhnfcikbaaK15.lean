/- Texts that a proof rests on: A partition as it lies; the contract of minim.mark. | The contract of minim.part: a class is parted by its marks. -/
import Derived.Test.YtamgldhnfcikbaaK14
import Derived.Deep.QuietTactic
import Derived.BigQuiet
import Derived.RegionTactic
import Derived.BigRegion
set_option maxRecDepth 100000
namespace Go.Proofs.Ytamgldhnfcikbaa
open Go.RowKit

def upd {α : Type} (f : Nat → α) (k : Nat) (v : α) : Nat → α := fun i => if i = k then v else f i
theorem upd_same {α : Type} (f : Nat → α) (k : Nat) (v : α) : upd f k v k = v := if_pos rfl
theorem upd_other {α : Type} (f : Nat → α) {k i : Nat} (v : α) (h : i ≠ k) : upd f k v i = f i := if_neg h
def spanV (x : Nat × Nat × Nat) : List Value := [.int .i64 x.1, .int .i64 x.2.1, .int .i64 x.2.2]
def spansV (k : Nat) (sp : Nat → Nat × Nat × Nat) : List Value := (List.range k).flatMap fun i => spanV (sp i)
theorem spansV_len (k : Nat) (sp : Nat → Nat × Nat × Nat) : (spansV k sp).length = k * 3 := by
  induction k with
  | zero => rfl
  | succ k ih => unfold spansV at *; rw [List.range_succ, List.flatMap_append, List.length_append, ih]; simp [spanV]; omega
theorem spansV_succ (k : Nat) (sp : Nat → Nat × Nat × Nat) : spansV (k + 1) sp = spansV k sp ++ spanV (sp k) := by
  unfold spansV; rw [List.range_succ, List.flatMap_append]; simp
theorem spansV_at (sp : Nat → Nat × Nat × Nat) : ∀ (k i j : Nat), i < k → j < 3 → (spansV k sp)[i * 3 + j]? = (spanV (sp i))[j]?
  | 0, i, j, h, _ => by omega
  | k + 1, i, j, h, hj => by
    rw [spansV_succ]
    by_cases e : i = k
    · subst e
      rw [List.getElem?_append_right (by rw [spansV_len]; omega), spansV_len, Nat.add_sub_cancel_left]
    · rw [List.getElem?_append_left (by rw [spansV_len]; omega)]
      exact spansV_at sp k i j (by omega) hj
theorem spansV_congr {k : Nat} {f g : Nat → Nat × Nat × Nat} (h : ∀ i, i < k → f i = g i) : spansV k f = spansV k g := by
  induction k with
  | zero => rfl
  | succ k ih => rw [spansV_succ, spansV_succ, ih fun i hi => h i (by omega), h k (by omega)]
theorem spansV_set1 (sp : Nat → Nat × Nat × Nat) (c x : Nat) : ∀ k, c < k → (spansV k sp).set (c * 3 + 1) (.int .i64 (x : Nat)) = spansV k (upd sp c ((sp c).1, x, (sp c).2.2))
  | 0, h => by omega
  | k + 1, h => by
    rw [spansV_succ, spansV_succ]
    by_cases e : c = k
    · subst e
      rw [List.set_append_right _ _ (by rw [spansV_len]; omega), spansV_len, Nat.add_sub_cancel_left, upd_same]
      rw [spansV_congr (f := sp) (g := upd sp c ((sp c).1, x, (sp c).2.2)) fun i hi => (upd_other _ _ (by omega)).symm]
      rfl
    · rw [List.set_append_left _ _ (by rw [spansV_len]; omega), spansV_set1 sp c x k (by omega), upd_other sp _ (show k ≠ c by omega)]
structure PA (w : World) (bp B n k : Nat) (go gp gc gs co cp cc cs : Nat) (O P C : Nat → Nat) (sp : Nat → Nat × Nat × Nat) : Prop where
  blk : w.heap[bp]? = some (.cells #[.slice (some ⟨go, 0, none⟩) n co, .slice (some ⟨gp, 0, none⟩) n cp, .slice (some ⟨gc, 0, none⟩) n cc, .slice (some ⟨gs, 0, none⟩) k cs] 83 (0, 0))
  ro : w.ownsRow B 3 1 (.slice (some ⟨go, 0, none⟩) n co) n (natsV n O)
  rp : w.ownsRow B 3 1 (.slice (some ⟨gp, 0, none⟩) n cp) n (natsV n P)
  rc : w.ownsRow B 3 1 (.slice (some ⟨gc, 0, none⟩) n cc) n (natsV n C)
  rs : w.ownsRow B 106 3 (.slice (some ⟨gs, 0, none⟩) k cs) k (spansV k sp)
  ne : go ≠ gp ∧ go ≠ gc ∧ go ≠ gs ∧ gp ≠ gc ∧ gp ≠ gs ∧ gc ≠ gs
  far : bp ≠ go ∧ bp ≠ gp ∧ bp ≠ gc ∧ bp ≠ gs
theorem PA.keep {w w' : World} {bp B n k go gp gc gs co cp cc cs : Nat} {O P C : Nat → Nat} {sp : Nat → Nat × Nat × Nat} (h : PA w bp B n k go gp gc gs co cp cc cs O P C sp) (hk : ∀ q, q < w.heap.size → (q = bp ∨ B ≤ q) → w'.heap[q]? = w.heap[q]?) : PA w' bp B n k go gp gc gs co cp cc cs O P C sp :=
  ⟨(hk bp (lt_of_block h.blk) (.inl rfl)).trans h.blk, row_same h.ro fun q e => hk q (h.ro.lt q e).2 (.inr (h.ro.lt q e).1), row_same h.rp fun q e => hk q (h.rp.lt q e).2 (.inr (h.rp.lt q e).1),
    row_same h.rc fun q e => hk q (h.rc.lt q e).2 (.inr (h.rc.lt q e).1), row_same h.rs fun q e => hk q (h.rs.lt q e).2 (.inr (h.rs.lt q e).1), h.ne, h.far⟩
theorem PA.order {w : World} {bp B n k go gp gc gs co cp cc cs : Nat} {O P C : Nat → Nat} {sp : Nat → Nat × Nat × Nat} (h : PA w bp B n k go gp gc gs co cp cc cs O P C sp) (i v : Nat) : PA (w.setCell ⟨go, i, none⟩ (.int .i64 (v : Nat))) bp B n k go gp gc gs co cp cc cs (upd O i v) P C sp := by
  have hn := h.ne
  have hf := h.far
  have hb := (h.ro.lt go rfl).1
  have key : ∀ q, q ≠ go → (w.setCell ⟨go, i, none⟩ (.int .i64 (v : Nat))).heap[q]? = w.heap[q]? := fun q hq => Below.heap_setCell _ _ _ _ hq
  refine ⟨(key bp (by omega)).trans h.blk, ?_, row_same h.rp fun q e => key q (by have e9 : q = gp := (by cases e; rfl); omega), row_same h.rc fun q e => key q (by have e9 : q = gc := (by cases e; rfl); omega), row_same h.rs fun q e => key q (by have e9 : q = gs := (by cases e; rfl); omega), hn, hf⟩
  have := (h.ro.stored i (.int .i64 (v : Nat))).1
  rw [natsV_set (upd_same O i v) fun j _ hj => (upd_other O v hj).symm] at this
  exact this
theorem PA.place {w : World} {bp B n k go gp gc gs co cp cc cs : Nat} {O P C : Nat → Nat} {sp : Nat → Nat × Nat × Nat} (h : PA w bp B n k go gp gc gs co cp cc cs O P C sp) (i v : Nat) : PA (w.setCell ⟨gp, i, none⟩ (.int .i64 (v : Nat))) bp B n k go gp gc gs co cp cc cs O (upd P i v) C sp := by
  have hn := h.ne
  have hf := h.far
  have hb := (h.rp.lt gp rfl).1
  have key : ∀ q, q ≠ gp → (w.setCell ⟨gp, i, none⟩ (.int .i64 (v : Nat))).heap[q]? = w.heap[q]? := fun q hq => Below.heap_setCell _ _ _ _ hq
  refine ⟨(key bp (by omega)).trans h.blk, row_same h.ro fun q e => key q (by have e9 : q = go := (by cases e; rfl); omega), ?_, row_same h.rc fun q e => key q (by have e9 : q = gc := (by cases e; rfl); omega), row_same h.rs fun q e => key q (by have e9 : q = gs := (by cases e; rfl); omega), hn, hf⟩
  have := (h.rp.stored i (.int .i64 (v : Nat))).1
  rw [natsV_set (upd_same P i v) fun j _ hj => (upd_other P v hj).symm] at this
  exact this
theorem PA.cls {w : World} {bp B n k go gp gc gs co cp cc cs : Nat} {O P C : Nat → Nat} {sp : Nat → Nat × Nat × Nat} (h : PA w bp B n k go gp gc gs co cp cc cs O P C sp) (i v : Nat) : PA (w.setCell ⟨gc, i, none⟩ (.int .i64 (v : Nat))) bp B n k go gp gc gs co cp cc cs O P (upd C i v) sp := by
  have hn := h.ne
  have hf := h.far
  have hb := (h.rc.lt gc rfl).1
  have key : ∀ q, q ≠ gc → (w.setCell ⟨gc, i, none⟩ (.int .i64 (v : Nat))).heap[q]? = w.heap[q]? := fun q hq => Below.heap_setCell _ _ _ _ hq
  refine ⟨(key bp (by omega)).trans h.blk, row_same h.ro fun q e => key q (by have e9 : q = go := (by cases e; rfl); omega), row_same h.rp fun q e => key q (by have e9 : q = gp := (by cases e; rfl); omega), ?_, row_same h.rs fun q e => key q (by have e9 : q = gs := (by cases e; rfl); omega), hn, hf⟩
  have := (h.rc.stored i (.int .i64 (v : Nat))).1
  rw [natsV_set (upd_same C i v) fun j _ hj => (upd_other C v hj).symm] at this
  exact this
theorem PA.marked {w : World} {bp B n k go gp gc gs co cp cc cs : Nat} {O P C : Nat → Nat} {sp : Nat → Nat × Nat × Nat} (h : PA w bp B n k go gp gc gs co cp cc cs O P C sp) {c : Nat} (hc : c < k) (v : Nat) : PA (w.setCell ⟨gs, c * 3 + 1, none⟩ (.int .i64 (v : Nat))) bp B n k go gp gc gs co cp cc cs O P C (upd sp c ((sp c).1, v, (sp c).2.2)) := by
  have hn := h.ne
  have hf := h.far
  have hb := (h.rs.lt gs rfl).1
  have key : ∀ q, q ≠ gs → (w.setCell ⟨gs, c * 3 + 1, none⟩ (.int .i64 (v : Nat))).heap[q]? = w.heap[q]? := fun q hq => Below.heap_setCell _ _ _ _ hq
  refine ⟨(key bp (by omega)).trans h.blk, row_same h.ro fun q e => key q (by have e9 : q = go := (by cases e; rfl); omega), row_same h.rp fun q e => key q (by have e9 : q = gp := (by cases e; rfl); omega), row_same h.rc fun q e => key q (by have e9 : q = gc := (by cases e; rfl); omega), ?_, hn, hf⟩
  have := (h.rs.stored (c * 3 + 1) (.int .i64 (v : Nat))).1
  rw [spansV_set1 sp c v k hc] at this
  exact this
theorem cell_span {w : World} {bp B n k go gp gc gs co cp cc cs c : Nat} {O P C : Nat → Nat} {sp : Nat → Nat × Nat × Nat} (h : PA w bp B n k go gp gc gs co cp cc cs O P C sp) (hc : c < k) :
    w.cell? ⟨gs, c * 3, none⟩ = some (.int .i64 ((sp c).1 : Nat)) ∧ w.cell? ⟨gs, c * 3 + 1, none⟩ = some (.int .i64 ((sp c).2.1 : Nat)) ∧ w.cell? ⟨gs, c * 3 + 2, none⟩ = some (.int .i64 ((sp c).2.2 : Nat)) := by
  refine ⟨?_, ?_, ?_⟩
  · have := h.rs.cellAt (c * 3 + 0) (by omega)
    rw [spansV_at sp k c 0 hc (by omega)] at this; exact this
  · have := h.rs.cellAt (c * 3 + 1) (by omega)
    rw [spansV_at sp k c 1 hc (by omega)] at this; exact this
  · have := h.rs.cellAt (c * 3 + 2) (by omega)
    rw [spansV_at sp k c 2 hc (by omega)] at this; exact this
def Own3 (go gp gs : Nat) (q : Nat) : Prop := q = go ∨ q = gp ∨ q = gs
set_option linter.unusedSimpArgs false in
set_option maxHeartbeats 8000000 in
theorem pmark_any (bp B n k go gp gc gs co cp cc cs s : Nat) (O P C : Nat → Nat) (sp : Nat → Nat × Nat × Nat) (w : World) (h : PA w bp B n k go gp gc gs co cp cc cs O P C sp) (hs : s < n) (hn : n ≤ 4096) (hc : C s < k) (hm : (sp (C s)).2.1 < n) (hp : P s < n) (ho : O (sp (C s)).2.1 < n) :
    Calls Try.prog 61 #[.pointer (some ⟨bp, 0, none⟩), .int .i64 s] w fun e w' => e = .returned (.tuple #[]) ∧
      Hid (PA w' bp B n k go gp gc gs co cp cc cs (upd (upd O (P s) (O (sp (C s)).2.1)) (sp (C s)).2.1 s) (upd (upd P (O (sp (C s)).2.1) (P s)) s (sp (C s)).2.1) C (upd sp (C s) ((sp (C s)).1, (sp (C s)).2.1 + 1, (sp (C s)).2.2))) ∧ Hid (Oth w w' (Own3 go gp gs)) := by
  have mixed : Try.prog.follows .mixedOrders = true := by kernel_rfl
  have e0 : w.cell? ⟨bp, 0, none⟩ = some (.slice (some ⟨go, 0, none⟩) n co) := (cell_of_row w bp 0 _ _ _ h.blk).trans rfl
  have e1 : w.cell? ⟨bp, 1, none⟩ = some (.slice (some ⟨gp, 0, none⟩) n cp) := (cell_of_row w bp 1 _ _ _ h.blk).trans rfl
  have e2 : w.cell? ⟨bp, 2, none⟩ = some (.slice (some ⟨gc, 0, none⟩) n cc) := (cell_of_row w bp 2 _ _ _ h.blk).trans rfl
  have e3 : w.cell? ⟨bp, 3, none⟩ = some (.slice (some ⟨gs, 0, none⟩) k cs) := (cell_of_row w bp 3 _ _ _ h.blk).trans rfl
  have hx : (spansV k sp)[C s * 3 + 1]? = some (.int .i64 ((sp (C s)).2.1 : Nat)) := by rw [spansV_at sp k (C s) 1 hc (by omega)]; rfl
  have c0 : w.cell? ⟨gc, s, none⟩ = some (.int .i64 (C s : Nat)) := by rw [h.rc.cellAt s (by omega), natsV_at C hs]
  have c1 : w.cell? ⟨gs, C s * 3 + 1, none⟩ = some (.int .i64 ((sp (C s)).2.1 : Nat)) := by rw [h.rs.cellAt _ (by omega), hx]
  have c2 : w.cell? ⟨gp, s, none⟩ = some (.int .i64 (P s : Nat)) := by rw [h.rp.cellAt s (by omega), natsV_at P hs]
  have c3 : w.cell? ⟨go, (sp (C s)).2.1, none⟩ = some (.int .i64 (O (sp (C s)).2.1 : Nat)) := by rw [h.ro.cellAt _ (by omega), natsV_at O hm]
  have HPA := Lib.hid h
  have HFIN := Lib.hid (show ∀ w', (PA w' bp B n k go gp gc gs co cp cc cs (upd (upd O (P s) (O (sp (C s)).2.1)) (sp (C s)).2.1 s) (upd (upd P (O (sp (C s)).2.1) (P s)) s (sp (C s)).2.1) C (upd sp (C s) ((sp (C s)).1, (sp (C s)).2.1 + 1, (sp (C s)).2.2))) → Oth w w' (Own3 go gp gs) → _ ∧ _ from fun w' h1 h2 => ⟨Lib.hid h1, Lib.hid h2⟩)
  clear h hx
  obtain ⟨c, hcc⟩ : ∃ c, C s = c := ⟨_, rfl⟩
  rw [hcc] at c0 c1 c3 hc hm ho HFIN
  rw [hcc]
  obtain ⟨m, hmm⟩ : ∃ m, (sp c).2.1 = m := ⟨_, rfl⟩
  rw [hmm] at c1 c3 hm ho HFIN
  rw [hmm]
  obtain ⟨fr, hfr⟩ : ∃ fr, P s = fr := ⟨_, rfl⟩
  rw [hfr] at c2 hp HFIN
  rw [hfr]
  obtain ⟨ot, hot⟩ : ∃ ot, O m = ot := ⟨_, rfl⟩
  rw [hot] at c3 ho HFIN
  rw [hot]
  have i1 : (s : Int) < n := by omega
  have i2 : (c : Int) < k := by omega
  have i3 : (m : Int) < n := by omega
  have i4 : (fr : Int) < n := by omega
  have i5 : (ot : Int) < n := by omega
  have HMM := Lib.hid hmm
  clear hcc hmm hfr hot
  go_enter Try.func61, Try.ntmps61
  go_upto_region 0 with fail
  go_quiet (fail)
  revert nq
  intro n1
  go_upto_region 1 with fail
  go_quiet (fail)
  revert nq
  intro n2
  have f0 : w.frozen? ⟨go, fr, none⟩ = false := HPA.out.ro.frozenAt fr
  have f1 : w.frozen? ⟨go, m, none⟩ = false := HPA.out.ro.frozenAt m
  have c4 : w.cell? ⟨go, fr, none⟩ = some (.int .i64 (O fr : Nat)) := by rw [HPA.out.ro.cellAt _ (by omega), natsV_at O hp]
  have HPD := Lib.hid (show ∀ q, PA (w.drewN q) bp B n k go gp gc gs co cp cc cs O P C sp from fun q => HPA.out.keep fun _ _ _ => rfl)
  have c5 : ∀ q, ((w.drewN q).setCell ⟨go, fr, none⟩ (.int .i64 (ot : Nat))).cell? ⟨go, m, none⟩ = some (.int .i64 (upd O fr ot m : Nat)) := fun q => by rw [((HPD.out q).order fr ot).ro.cellAt _ (by omega), natsV_at _ hm]
  have hne := HPA.out.ne
  have hfa := HPA.out.far
  have hgo := (HPA.out.ro.lt go rfl).1
  have hgp := (HPA.out.rp.lt gp rfl).1
  have hgs := (HPA.out.rs.lt gs rfl).1
  go_upto_region 2 with fail
  go_region
  obtain ⟨w2, hw2⟩ : ∃ w2, ((w.drewN (n1 + n2 + 1)).setCell ⟨go, fr, none⟩ (.int .i64 (ot : Nat))).setCell ⟨go, m, none⟩ (.int .i64 (s : Nat)) = w2 := ⟨_, rfl⟩
  have HP2 := Lib.hid (((HPD.out (n1 + n2 + 1)).order fr ot).order m s)
  have HO2 : Hid (Oth w w2 (Own3 go gp gs)) := Lib.hid (by
    rw [← hw2]
    exact ((Oth.of_below (S := Own3 go gp gs) (below_drewN w _)).trans (Oth.of_set _ (S := Own3 go gp gs) ⟨go, fr, none⟩ _ (.inl rfl)) (fun _ _ h => h)).trans (Oth.of_set _ (S := Own3 go gp gs) ⟨go, m, none⟩ _ (.inl rfl)) (fun _ _ h => h))
  rw [hw2] at HP2
  rw [hw2]
  clear hw2 e0 e1 e2 e3 c0 c1 c2 c3 c4 c5 f0 f1 HPD
  have e1 : w2.cell? ⟨bp, 1, none⟩ = some (.slice (some ⟨gp, 0, none⟩) n cp) := (cell_of_row w2 bp 1 _ _ _ HP2.out.blk).trans rfl
  have c1 : w2.cell? ⟨gs, c * 3 + 1, none⟩ = some (.int .i64 (m : Nat)) := by
    have := (cell_span HP2.out hc).2.1
    rw [HMM.out] at this; exact this
  have c4 : w2.cell? ⟨gp, ot, none⟩ = some (.int .i64 (P ot : Nat)) := by rw [HP2.out.rp.cellAt _ (by omega), natsV_at P ho]
  have f0 : w2.frozen? ⟨gp, ot, none⟩ = false := HP2.out.rp.frozenAt ot
  have f1 : w2.frozen? ⟨gp, s, none⟩ = false := HP2.out.rp.frozenAt s
  have c5 : (w2.setCell ⟨gp, ot, none⟩ (.int .i64 (fr : Nat))).cell? ⟨gp, s, none⟩ = some (.int .i64 (upd P ot fr s : Nat)) := by
    rw [(HP2.out.place ot fr).rp.cellAt _ (by omega), natsV_at _ hs]
  go_upto_region 3 with fail
  go_region
  obtain ⟨w3, hw3⟩ : ∃ w3, ((w2.setCell ⟨gp, ot, none⟩ (.int .i64 (fr : Nat))).setCell ⟨gp, s, none⟩ (.int .i64 (m : Nat))).drew = w3 := ⟨_, rfl⟩
  have HP3 := Lib.hid (((HP2.out.place ot fr).place s m).keep (w' := ((w2.setCell ⟨gp, ot, none⟩ (.int .i64 (fr : Nat))).setCell ⟨gp, s, none⟩ (.int .i64 (m : Nat))).drew) fun _ _ _ => rfl)
  have HO3 : Hid (Oth w w3 (Own3 go gp gs)) := Lib.hid (by
    rw [← hw3]
    exact ((HO2.out.trans (Oth.of_set w2 (S := Own3 go gp gs) ⟨gp, ot, none⟩ (.int .i64 (fr : Nat)) (.inr (.inl rfl))) (fun _ _ h => h)).trans (Oth.of_set _ (S := Own3 go gp gs) ⟨gp, s, none⟩ (.int .i64 (m : Nat)) (.inr (.inl rfl))) (fun _ _ h => h)).trans (Oth.of_below (S := Own3 go gp gs) (Below.refl _ _).drew) (fun _ _ h => h))
  rw [hw3] at HP3
  try rw [hw3]
  clear hw3 e1 c1 c4 c5 f0 f1 HP2 HO2
  have c1 : w3.cell? ⟨gs, c * 3 + 1, none⟩ = some (.int .i64 (m : Nat)) := by
    have := (cell_span HP3.out hc).2.1
    rw [HMM.out] at this; exact this
  have f0 : w3.frozen? ⟨gs, c * 3 + 1, none⟩ = false := HP3.out.rs.frozenAt _
  have HP4 := Lib.hid (HP3.out.marked hc (m + 1))
  have HO4 := Lib.hid (HO3.out.trans (Oth.of_set w3 (S := Own3 go gp gs) ⟨gs, c * 3 + 1, none⟩ (.int .i64 ((m + 1 : Nat) : Int)) (.inr (.inr rfl))) (fun _ _ h => h))
  go_wp2
  go_end0
  exact ⟨rfl, HFIN.out _ HP4.out HO4.out⟩
end Go.Proofs.Ytamgldhnfcikbaa
set_option maxRecDepth 100000
namespace Go.Proofs.Ytamgldhnfcikbaa
open List (getElem_toArray getElem_cons_succ getElem_cons_zero setIfInBounds_toArray set_cons_zero set_cons_succ)
open Go.RowKit

set_option linter.unusedSimpArgs false in
theorem psize_any (b m e : Nat) (w : World) (hbe : b ≤ e) (he : e ≤ 4096) :
    Calls Try.prog 71 #[.agg #[.int .i64 b, .int .i64 m, .int .i64 e]] w fun x w' => x = .returned (.int .i64 (e - b : Nat)) ∧ Below w.heap.size w w' := by
  have hsub : IntKind.i64.wrap ((e : Int) - b) = ((e - b : Nat) : Int) := by rw [IntKind.wrap_i64]; omega
  have hal := new_one w (.cells #[.int .i64 b, .int .i64 m, .int .i64 e] 106)
  go_enter Try.func71, Try.ntmps71
  go_wp2
  go_ret
  refine ⟨?_, hal⟩
  first | rfl | (congr 2; omega)
def keptOf (x : Nat × Nat × Nat) : Nat × Nat × Nat := if x.2.1 - x.1 < x.2.2 - x.2.1 then (x.2.1, x.2.1, x.2.2) else (x.1, x.1, x.2.1)
def movedOf (x : Nat × Nat × Nat) : Nat × Nat × Nat := if x.2.1 - x.1 < x.2.2 - x.2.1 then (x.1, x.1, x.2.1) else (x.2.1, x.2.1, x.2.2)
def SB (w : World) (q : Nat) (x : Nat × Nat × Nat) : Prop := w.heap[q]? = some (.cells #[.int .i64 (x.1 : Nat), .int .i64 (x.2.1 : Nat), .int .i64 (x.2.2 : Nat)] 106 (0, 0))
theorem SB.cells {w : World} {q : Nat} {x : Nat × Nat × Nat} (h : SB w q x) : w.cell? ⟨q, 0, none⟩ = some (.int .i64 (x.1 : Nat)) ∧ w.cell? ⟨q, 1, none⟩ = some (.int .i64 (x.2.1 : Nat)) ∧ w.cell? ⟨q, 2, none⟩ = some (.int .i64 (x.2.2 : Nat)) :=
  ⟨(cell_of_row w q 0 _ _ _ h).trans rfl, (cell_of_row w q 1 _ _ _ h).trans rfl, (cell_of_row w q 2 _ _ _ h).trans rfl⟩
theorem infoSpan : (Try.prog.info? 106).map (·.size) = some 3 := by kernel_rfl
theorem infoSpan3 : (Try.prog.info? 106).map (fun i => (i.zero, i.size, i.bytes)) = some (some (.agg #[.int .i64 0, .int .i64 0, .int .i64 0]), 3, 24) := by kernel_rfl
theorem store_span {w : World} {q : Nat} {cs : Array Value} (h : w.heap[q]? = some (.cells cs 106 (0, 0))) (hcs : cs.size = 3) (x : Nat × Nat × Nat) : (storeVar 106 ⟨q, 0, none⟩ (.agg #[.int .i64 (x.1 : Nat), .int .i64 (x.2.1 : Nat), .int .i64 (x.2.2 : Nat)])).run Try.prog w = .ok () (w.setRow q #[.int .i64 (x.1 : Nat), .int .i64 (x.2.1 : Nat), .int .i64 (x.2.2 : Nat)]) :=
  run_storeVar_row w q _ _ _ _ h (by rw [infoSpan]; rfl) (by rw [hcs]; rfl) (by simp [Value.oneCell'])
theorem SB.made {w : World} {q : Nat} {cs : Array Value} (h : w.heap[q]? = some (.cells cs 106 (0, 0))) (x : Nat × Nat × Nat) : SB (w.setRow q #[.int .i64 (x.1 : Nat), .int .i64 (x.2.1 : Nat), .int .i64 (x.2.2 : Nat)]) q x := by
  unfold SB
  show (w.heap.modify q _)[q]? = _
  rw [Array.getElem?_modify, if_pos rfl, h]; rfl
theorem wp_store_span {op : Oper} {a : Act} {w : World} {K : Act → World → Prop} {Q : Exit → Act → World → Prop} (q : Nat) (x : Nat × Nat × Nat) (cs : Array Value) (hb : w.heap[q]? = some (.cells cs 106 (0, 0))) (hcs : cs.size = 3) (u y : Operand) (ho : op.op = .store 106 u y)
    (hx : a.eval u = .pointer (some ⟨q, 0, none⟩)) (hy : a.eval y = .agg #[.int .i64 (x.1 : Nat), .int .i64 (x.2.1 : Nat), .int .i64 (x.2.2 : Nat)]) (h : K (a.put op.dst undef) (w.setRow q #[.int .i64 (x.1 : Nat), .int .i64 (x.2.1 : Nat), .int .i64 (x.2.2 : Nat)])) : Oper.wp Try.prog op a w K Q := by
  unfold Oper.wp execOp
  simp only [ho, hx, hy, Instr.storeAt, Instr.sureAddr, Sem.run_bind, Sem.run_pure, Result.andThen_ok, store_span hb hcs x]
  exact h
structure TwoS (w1 W : World) (bk bm : Nat) (x y : Nat × Nat × Nat) : Prop where
  k0 : w1.heap.size ≤ bk
  m0 : w1.heap.size ≤ bm
  ne : bk ≠ bm
  kx : SB W bk x
  my : SB W bm y
  bel : Below w1.heap.size w1 W
theorem two_spans (w1 : World) (x y : Nat × Nat × Nat) :
    TwoS w1 ((((w1.alloc (.cells #[.int .i64 0, .int .i64 0, .int .i64 0] 106)).alloc (.cells #[.int .i64 0, .int .i64 0, .int .i64 0] 106)).setRow w1.heap.size #[.int .i64 (x.1 : Nat), .int .i64 (x.2.1 : Nat), .int .i64 (x.2.2 : Nat)]).setRow (w1.heap.size + 1) #[.int .i64 (y.1 : Nat), .int .i64 (y.2.1 : Nat), .int .i64 (y.2.2 : Nat)]) w1.heap.size (w1.heap.size + 1) x y := by
  have h0 := heap_alloc_new w1 (.cells #[.int .i64 0, .int .i64 0, .int .i64 0] 106)
  have h1 := heap_alloc_new (w1.alloc (.cells #[.int .i64 0, .int .i64 0, .int .i64 0] 106)) (.cells #[.int .i64 0, .int .i64 0, .int .i64 0] 106)
  rw [World.size_alloc] at h1
  have h2 := (heap_alloc_old (w1.alloc (.cells #[.int .i64 0, .int .i64 0, .int .i64 0] 106)) (.cells #[.int .i64 0, .int .i64 0, .int .i64 0] 106) (r := w1.heap.size) (by simp)).trans h0
  refine ⟨Nat.le_refl _, by omega, by omega, ?_, ?_, ?_⟩
  · exact (setRow_other _ _ (by omega)).trans (SB.made h2 x)
  · exact SB.made ((setRow_other _ _ (by omega)).trans h1) y
  · exact below_setRow (below_setRow ((new_one w1 _).trans ((new_one _ _).mono (by simp))) (Nat.le_refl _) _) (by omega) _
theorem TwoS.base {w0 w1 W : World} {bk bm : Nat} {x y : Nat × Nat × Nat} (h : TwoS w1 W bk bm x y) (hb : Below w0.heap.size w0 w1) : TwoS w0 W bk bm x y :=
  ⟨Nat.le_trans hb.size h.k0, Nat.le_trans hb.size h.m0, h.ne, h.kx, h.my, hb.trans (h.bel.mono hb.size)⟩
theorem two_spans2 (w1 : World) (x y : Nat × Nat × Nat) :
    TwoS w1 ((((w1.alloc (.cells #[.int .i64 0, .int .i64 0, .int .i64 0] 106)).alloc (.cells #[.int .i64 0, .int .i64 0, .int .i64 0] 106)).setRow (w1.heap.size + 1) #[.int .i64 (x.1 : Nat), .int .i64 (x.2.1 : Nat), .int .i64 (x.2.2 : Nat)]).setRow w1.heap.size #[.int .i64 (y.1 : Nat), .int .i64 (y.2.1 : Nat), .int .i64 (y.2.2 : Nat)]) (w1.heap.size + 1) w1.heap.size x y := by
  have h0 := heap_alloc_new w1 (.cells #[.int .i64 0, .int .i64 0, .int .i64 0] 106)
  have h1 := heap_alloc_new (w1.alloc (.cells #[.int .i64 0, .int .i64 0, .int .i64 0] 106)) (.cells #[.int .i64 0, .int .i64 0, .int .i64 0] 106)
  rw [World.size_alloc] at h1
  have h2 := (heap_alloc_old (w1.alloc (.cells #[.int .i64 0, .int .i64 0, .int .i64 0] 106)) (.cells #[.int .i64 0, .int .i64 0, .int .i64 0] 106) (r := w1.heap.size) (by simp)).trans h0
  refine ⟨by omega, Nat.le_refl _, by omega, ?_, ?_, ?_⟩
  · exact (setRow_other _ _ (by omega)).trans (SB.made h1 x)
  · exact SB.made ((setRow_other _ _ (by omega)).trans h2) y
  · exact below_setRow (below_setRow ((new_one w1 _).trans ((new_one _ _).mono (by simp))) (by omega) _) (Nat.le_refl _) _
def clsUp (O C : Nat → Nat) (k p : Nat) : Nat → Nat → Nat
  | 0 => C
  | i + 1 => upd (clsUp O C k p i) (O (p + i)) k
def OwnP (bp gc gs : Nat) (q : Nat) : Prop := q = bp ∨ q = gc ∨ q = gs
theorem PA.append {w w' : World} {bp B n k go gp gc gs co cp cc cs gs' cs' : Nat} {O P C : Nat → Nat} {sp : Nat → Nat × Nat × Nat} {y : Nat × Nat × Nat} (h : PA w bp B n k go gp gc gs co cp cc cs O P C sp) (hg : w.grownBy w' (some gs))
    (hr : w'.ownsRow B 106 3 (.slice (some ⟨gs', 0, none⟩) (k + 1) cs') (k + 1) (spansV k sp ++ spanV y)) (hv : gs' = gs ∨ w.heap.size ≤ gs') :
    PA (w'.setCell ⟨bp, 3, none⟩ (.slice (some ⟨gs', 0, none⟩) (k + 1) cs')) bp B n (k + 1) go gp gc gs' co cp cc cs' O P C (upd sp k y) := by
  have hn := h.ne
  have hf := h.far
  have hbp := lt_of_block h.blk
  have lo := h.ro.lt go rfl
  have lp := h.rp.lt gp rfl
  have lc := h.rc.lt gc rfl
  have ls := h.rs.lt gs rfl
  have key : ∀ q, q < w.heap.size → q ≠ bp → q ≠ gs → (w'.setCell ⟨bp, 3, none⟩ (.slice (some ⟨gs', 0, none⟩) (k + 1) cs')).heap[q]? = w.heap[q]? := fun q h1 h2 h3 => by
    rw [Below.heap_setCell _ _ _ _ (show q ≠ bp from h2), hg.block q h1 (by simp; omega)]
  have hx : w'.heap[bp]? = some (.cells #[.slice (some ⟨go, 0, none⟩) n co, .slice (some ⟨gp, 0, none⟩) n cp, .slice (some ⟨gc, 0, none⟩) n cc, .slice (some ⟨gs, 0, none⟩) k cs] 83 (0, 0)) := by rw [hg.block bp hbp (by simp; omega)]; exact h.blk
  refine ⟨by rw [setCell_block hx]; rfl, row_same h.ro fun q e => key q (h.ro.lt q e).2 (by have e9 : q = go := (by cases e; rfl); omega) (by have e9 : q = go := (by cases e; rfl); omega), row_same h.rp fun q e => key q (h.rp.lt q e).2 (by have e9 : q = gp := (by cases e; rfl); omega) (by have e9 : q = gp := (by cases e; rfl); omega),
    row_same h.rc fun q e => key q (h.rc.lt q e).2 (by have e9 : q = gc := (by cases e; rfl); omega) (by have e9 : q = gc := (by cases e; rfl); omega), ?_, ?_, by omega⟩
  · rw [spansV_succ, upd_same, spansV_congr (f := upd sp k y) (g := sp) fun i hi => upd_other _ _ (by omega)]
    refine row_same hr fun q e => Below.heap_setCell _ _ _ _ (show q ≠ bp from ?_)
    have e9 : q = gs' := by cases e; rfl
    have := (hr.lt q e).1
    omega
  · omega
theorem PA.keep2 {w w' : World} {bp B n k go gp gc gs co cp cc cs : Nat} {O P C : Nat → Nat} {sp : Nat → Nat × Nat × Nat} (h : PA w bp B n k go gp gc gs co cp cc cs O P C sp) (hk : ∀ q, (q = bp ∨ q = go ∨ q = gp ∨ q = gc ∨ q = gs) → w'.heap[q]? = w.heap[q]?) : PA w' bp B n k go gp gc gs co cp cc cs O P C sp :=
  ⟨(hk bp (.inl rfl)).trans h.blk, row_same h.ro fun q e => hk q (.inr (.inl (by cases e; rfl))), row_same h.rp fun q e => hk q (.inr (.inr (.inl (by cases e; rfl)))),
    row_same h.rc fun q e => hk q (.inr (.inr (.inr (.inl (by cases e; rfl))))), row_same h.rs fun q e => hk q (.inr (.inr (.inr (.inr (by cases e; rfl))))), h.ne, h.far⟩
theorem spansV_set3 (sp : Nat → Nat × Nat × Nat) (c : Nat) (x : Nat × Nat × Nat) : ∀ k, c < k → (((spansV k sp).set (c * 3) (.int .i64 (x.1 : Nat))).set (c * 3 + 1) (.int .i64 (x.2.1 : Nat))).set (c * 3 + 2) (.int .i64 (x.2.2 : Nat)) = spansV k (upd sp c x)
  | 0, h => by omega
  | k + 1, h => by
    rw [spansV_succ, spansV_succ]
    by_cases e : c = k
    · subst e
      have hl := spansV_len c sp
      rw [List.set_append_right _ _ (by omega), List.set_append_right _ _ (by omega), List.set_append_right _ _ (by omega), hl, Nat.sub_self, Nat.add_sub_cancel_left, Nat.add_sub_cancel_left, upd_same]
      rw [spansV_congr (f := sp) (g := upd sp c x) fun i hi => (upd_other _ _ (by omega)).symm]
      rfl
    · have hl := spansV_len k sp
      rw [List.set_append_left _ _ (by omega), List.set_append_left _ _ (by rw [List.length_set]; omega), List.set_append_left _ _ (by rw [List.length_set, List.length_set]; omega), spansV_set3 sp c x k (by omega), upd_other sp _ (show k ≠ c by omega)]
theorem PA.span {w : World} {bp B n k go gp gc gs co cp cc cs : Nat} {O P C : Nat → Nat} {sp : Nat → Nat × Nat × Nat} (h : PA w bp B n k go gp gc gs co cp cc cs O P C sp) {c : Nat} (hc : c < k) (x : Nat × Nat × Nat) : PA (((w.setCell ⟨gs, c * 3, none⟩ (.int .i64 (x.1 : Nat))).setCell ⟨gs, c * 3 + 1, none⟩ (.int .i64 (x.2.1 : Nat))).setCell ⟨gs, c * 3 + 2, none⟩ (.int .i64 (x.2.2 : Nat))) bp B n k go gp gc gs co cp cc cs O P C (upd sp c x) := by
  have hn := h.ne
  have hf := h.far
  have hb := (h.rs.lt gs rfl).1
  have key : ∀ q, q ≠ gs → (((w.setCell ⟨gs, c * 3, none⟩ (.int .i64 (x.1 : Nat))).setCell ⟨gs, c * 3 + 1, none⟩ (.int .i64 (x.2.1 : Nat))).setCell ⟨gs, c * 3 + 2, none⟩ (.int .i64 (x.2.2 : Nat))).heap[q]? = w.heap[q]? := fun q hq => by
    rw [Below.heap_setCell _ _ _ _ (show q ≠ gs from hq), Below.heap_setCell _ _ _ _ (show q ≠ gs from hq), Below.heap_setCell _ _ _ _ (show q ≠ gs from hq)]
  refine ⟨(key bp (by omega)).trans h.blk, row_same h.ro fun q e => key q (by have e9 : q = go := (by cases e; rfl); omega), row_same h.rp fun q e => key q (by have e9 : q = gp := (by cases e; rfl); omega), row_same h.rc fun q e => key q (by have e9 : q = gc := (by cases e; rfl); omega), ?_, hn, hf⟩
  have h1 := (h.rs.stored (c * 3) (.int .i64 (x.1 : Nat))).1
  have h2 := (h1.stored (c * 3 + 1) (.int .i64 (x.2.1 : Nat))).1
  have h3 := (h2.stored (c * 3 + 2) (.int .i64 (x.2.2 : Nat))).1
  rw [spansV_set3 sp c x k hc] at h3
  exact h3
theorem wpList_store_span {ops : Array Oper} {rest : List Oper} {op : Oper} {a : Act} {w : World} {Q : Exit → Act → World → Prop} (q : Nat) (x : Nat × Nat × Nat) (cs : Array Value) (hb : w.heap[q]? = some (.cells cs 106 (0, 0))) (hcs : cs.size = 3) (hgd : op.guard = none) (u y : Operand) (ho : op.op = .store 106 u y)
    (hx : a.eval u = .pointer (some ⟨q, 0, none⟩)) (hy : a.eval y = .agg #[.int .i64 (x.1 : Nat), .int .i64 (x.2.1 : Nat), .int .i64 (x.2.2 : Nat)]) (h : wpList Try.prog ops Q rest (a.put op.dst undef) (w.setRow q #[.int .i64 (x.1 : Nat), .int .i64 (x.2.1 : Nat), .int .i64 (x.2.2 : Nat)])) : wpList Try.prog ops Q (op :: rest) a w :=
  wpList_plain hgd fun _ hK => by
    unfold Oper.wp execOp
    simp only [ho, hx, hy, Instr.storeAt, Instr.sureAddr, Sem.run_bind, Sem.run_pure, Result.andThen_ok, store_span hb hcs x]
    exact hK _ _ h
def Parted (w w' : World) (bp B n k go gp gc gs co cp cc c : Nat) (O P C : Nat → Nat) (sp : Nat → Nat × Nat × Nat) : Prop :=
  Oth w w' (OwnP bp gc gs) ∧ ∃ gs' cs', (gs' = gs ∨ w.heap.size ≤ gs') ∧
    (((movedOf (sp c)).2.2 - (movedOf (sp c)).1 = 0 ∧ PA w' bp B n k go gp gc gs' co cp cc cs' O P C (upd sp c (keptOf (sp c)))) ∨
     (0 < (movedOf (sp c)).2.2 - (movedOf (sp c)).1 ∧ PA w' bp B n (k + 1) go gp gc gs' co cp cc cs' O P (clsUp O C k (movedOf (sp c)).1 ((movedOf (sp c)).2.2 - (movedOf (sp c)).1)) (upd (upd sp c (keptOf (sp c))) k (movedOf (sp c)))))
set_option linter.unusedSimpArgs false in
set_option maxHeartbeats 8000000 in
theorem ppart_any (bp B n k go gp gc gs co cp cc cs c : Nat) (O P C : Nat → Nat) (sp : Nat → Nat × Nat × Nat) (w : World) (h : PA w bp B n k go gp gc gs co cp cc cs O P C sp) (hn : n ≤ 4096) (hc : c < k) (h1 : (sp c).1 ≤ (sp c).2.1) (h2 : (sp c).2.1 ≤ (sp c).2.2) (h3 : (sp c).2.2 ≤ n) (hO : ∀ p, p < n → O p < n) (hk9 : k ≤ 4096) (hbig : B ≤ w.heap.size) :
    Calls Try.prog 62 #[.pointer (some ⟨bp, 0, none⟩), .int .i64 c] w fun e w' => e = .returned (.tuple #[]) ∧ Hid (Parted w w' bp B n k go gp gc gs co cp cc c O P C sp) := by
  have mixed : Try.prog.follows .mixedOrders = true := by kernel_rfl
  obtain ⟨i0, hi0, hz0, hz1, hz2⟩ := info_parts infoSpan3
  have HI := Lib.hid (And.intro hi0 (And.intro hz0 (And.intro hz1 hz2)))
  clear hi0 hz0 hz1 hz2
  have e3 : w.cell? ⟨bp, 3, none⟩ = some (.slice (some ⟨gs, 0, none⟩) k cs) := (cell_of_row w bp 3 _ _ _ h.blk).trans rfl
  obtain ⟨c0, c1, c2⟩ := cell_span h hc
  obtain ⟨b, hb⟩ : ∃ b, (sp c).1 = b := ⟨_, rfl⟩
  obtain ⟨m, hm⟩ : ∃ m, (sp c).2.1 = m := ⟨_, rfl⟩
  obtain ⟨e, he⟩ : ∃ e, (sp c).2.2 = e := ⟨_, rfl⟩
  rw [hb] at c0 h1
  rw [hm] at c1 h1 h2
  rw [he] at c2 h2 h3
  have i1 : (c : Int) < k := by omega
  obtain ⟨N, hN⟩ : ∃ N, w.heap.size = N := ⟨_, rfl⟩
  have HLT := Lib.hid (show bp < N ∧ go < N ∧ gp < N ∧ gc < N ∧ gs < N from by
    rw [← hN]
    exact ⟨lt_of_block h.blk, (h.ro.lt go rfl).2, (h.rp.lt gp rfl).2, (h.rc.lt gc rfl).2, (h.rs.lt gs rfl).2⟩)
  have HNW := Lib.hid hN
  have HSPC := Lib.hid (And.intro hb (And.intro hm he))
  obtain ⟨w1, hw1⟩ : ∃ w1, w.alloc (.cells #[.int .i64 b, .int .i64 m, .int .i64 e] 106) = w1 := ⟨_, rfl⟩
  have hx1 : w1.heap[N]? = some (.cells #[.int .i64 b, .int .i64 m, .int .i64 e] 106 (0, 0)) := by rw [← hw1, ← hN]; exact heap_alloc_new w _
  have d0 : w1.drew.cell? ⟨N, 0, none⟩ = some (.int .i64 b) := (cell_of_row w1 N 0 _ _ _ hx1).trans rfl
  have d1 : w1.drew.cell? ⟨N, 1, none⟩ = some (.int .i64 m) := (cell_of_row w1 N 1 _ _ _ hx1).trans rfl
  have d2 : w1.drew.cell? ⟨N, 2, none⟩ = some (.int .i64 e) := (cell_of_row w1 N 2 _ _ _ hx1).trans rfl
  have hs1 : w1.heap.size = N + 1 := by rw [← hw1]; simp [hN]
  have HB1 : Hid (Below w.heap.size w w1) := Lib.hid (by rw [← hw1]; exact new_one w _)
  have HPA1 := Lib.hid (h.keep (w' := w1) fun q hq _ => HB1.out.block q hq)
  go_enter Try.func62, Try.ntmps62
  go_upto_region 1 with fail
  clear hw1 hN
  refine region_meet (F := fun a W => ∃ bk bm, a = ⟨#[.pointer (some ⟨bp, 0, none⟩), .int .i64 c, undef, undef, .pointer (some ⟨N, 0, none⟩), .pointer (some ⟨bk, 0, none⟩), .pointer (some ⟨bm, 0, none⟩), undef, undef, .pointer (some ⟨bp, 0, none⟩), .pointer (some ⟨bp, 0, none⟩), .pointer (some ⟨bp, 3, none⟩), .slice (some ⟨gs, 0, none⟩) k cs, .int .i64 c, .pointer (some ⟨gs, c * 3, none⟩), .agg #[.int .i64 b, .int .i64 m, .int .i64 e], .pointer (some ⟨N, 0, none⟩), .int .i64 b, .pointer (some ⟨N, 0, none⟩), .int .i64 b, .pointer (some ⟨N, 1, none⟩), .int .i64 m, .agg #[.int .i64 b, .int .i64 b, .int .i64 m], .pointer (some ⟨N, 1, none⟩), .int .i64 m, .pointer (some ⟨N, 1, none⟩), .int .i64 m, .pointer (some ⟨N, 2, none⟩), .int .i64 e, .agg #[.int .i64 m, .int .i64 m, .int .i64 e], undef, undef, undef, undef, undef, undef, undef, undef, undef, undef, undef, undef, undef, undef, undef, undef, undef, undef, undef, undef, undef, undef, undef, undef, undef, undef, undef, undef, undef, undef, undef, undef, undef, undef, undef, undef, undef, undef, undef, undef, undef, undef, undef, undef, undef, undef, undef, undef, undef, undef, undef, undef, undef], []⟩ ∧ TwoS w1 W bk bm (b, b, m) (m, m, e)) ?_ ?_
  · skip
    refine region_goes 118 18 rfl (fun W => W.cell? ⟨N, 0, none⟩ = some (.int .i64 b) ∧ W.cell? ⟨N, 1, none⟩ = some (.int .i64 m) ∧ W.cell? ⟨N, 2, none⟩ = some (.int .i64 e)) mixed ⟨d0, d1, d2⟩ (fun hHeld => ?_)
    clear d0 d1 d2
    refine goes_take0 (i := 0) (v := ?hv1) rfl (by kernel_rfl) (by kernel_rfl) (by kernel_rfl) rfl (fun _ _ _ h => h) (Or.inl ⟨by rfl, ?hy1⟩) (by assumption) ?hr1
    case hy1 => (intro W9 hW9; obtain ⟨k0, k1, k2⟩ := hW9; first | (go_simp; done) | (go_simp; with_reducible rfl))
    simp only [Act.put, getElem_toArray, getElem_cons_succ, getElem_cons_zero, setIfInBounds_toArray, set_cons_zero, set_cons_succ]
    refine goes_take0 (i := 1) (v := ?hv2) rfl (by kernel_rfl) (by kernel_rfl) (by kernel_rfl) rfl (fun _ _ _ h => h) (Or.inl ⟨by rfl, ?hy2⟩) (by assumption) ?hr2
    case hy2 => (intro W9 hW9; obtain ⟨k0, k1, k2⟩ := hW9; first | (go_simp; done) | (go_simp; with_reducible rfl))
    simp only [Act.put, getElem_toArray, getElem_cons_succ, getElem_cons_zero, setIfInBounds_toArray, set_cons_zero, set_cons_succ]
    refine goes_take0 (i := 2) (v := ?hv3) rfl (by kernel_rfl) (by kernel_rfl) (by kernel_rfl) rfl (fun _ _ _ h => h) (Or.inl ⟨by rfl, ?hy3⟩) (by assumption) ?hr3
    case hy3 => (intro W9 hW9; obtain ⟨k0, k1, k2⟩ := hW9; first | (go_simp; done) | (go_simp; with_reducible rfl))
    simp only [Act.put, getElem_toArray, getElem_cons_succ, getElem_cons_zero, setIfInBounds_toArray, set_cons_zero, set_cons_succ]
    refine goes_take0 (i := 3) (v := ?hv4) rfl (by kernel_rfl) (by kernel_rfl) (by kernel_rfl) rfl (fun _ _ _ h => h) (Or.inl ⟨by rfl, ?hy4⟩) (by assumption) ?hr4
    case hy4 => (intro W9 hW9; obtain ⟨k0, k1, k2⟩ := hW9; first | (go_simp; done) | (go_simp; with_reducible rfl))
    simp only [Act.put, getElem_toArray, getElem_cons_succ, getElem_cons_zero, setIfInBounds_toArray, set_cons_zero, set_cons_succ]
    refine goes_take0 (i := 4) (v := ?hv5) rfl (by kernel_rfl) (by kernel_rfl) (by kernel_rfl) rfl (fun _ _ _ h => h) (Or.inl ⟨by rfl, ?hy5⟩) (by assumption) ?hr5
    case hy5 => (intro W9 hW9; obtain ⟨k0, k1, k2⟩ := hW9; first | (go_simp; done) | (go_simp; with_reducible rfl))
    simp only [Act.put, getElem_toArray, getElem_cons_succ, getElem_cons_zero, setIfInBounds_toArray, set_cons_zero, set_cons_succ]
    refine goes_take0 (i := 5) (v := ?hv6) rfl (by kernel_rfl) (by kernel_rfl) (by kernel_rfl) rfl (fun _ _ _ h => h) (Or.inl ⟨by rfl, ?hy6⟩) (by assumption) ?hr6
    case hy6 => (intro W9 hW9; obtain ⟨k0, k1, k2⟩ := hW9; first | (go_simp; done) | (go_simp; with_reducible rfl))
    simp only [Act.put, getElem_toArray, getElem_cons_succ, getElem_cons_zero, setIfInBounds_toArray, set_cons_zero, set_cons_succ]
    refine goes_take0 (i := 6) (v := ?hv7) rfl (by kernel_rfl) (by kernel_rfl) (by kernel_rfl) rfl (fun _ _ _ h => h) (Or.inl ⟨by rfl, ?hy7⟩) (by assumption) ?hr7
    case hy7 => (intro W9 hW9; obtain ⟨k0, k1, k2⟩ := hW9; first | (go_simp; done) | (go_simp; with_reducible rfl))
    simp only [Act.put, getElem_toArray, getElem_cons_succ, getElem_cons_zero, setIfInBounds_toArray, set_cons_zero, set_cons_succ]
    refine goes_take0 (i := 7) (v := ?hv8) rfl (by kernel_rfl) (by kernel_rfl) (by kernel_rfl) rfl (fun _ _ _ h => h) (Or.inl ⟨by rfl, ?hy8⟩) (by assumption) ?hr8
    case hy8 => (intro W9 hW9; obtain ⟨k0, k1, k2⟩ := hW9; first | (go_simp; done) | (go_simp; with_reducible rfl))
    simp only [Act.put, getElem_toArray, getElem_cons_succ, getElem_cons_zero, setIfInBounds_toArray, set_cons_zero, set_cons_succ]
    refine goes_take0 (i := 8) (v := ?hv9) rfl (by kernel_rfl) (by kernel_rfl) (by kernel_rfl) rfl (fun _ _ _ h => h) (Or.inl ⟨by rfl, ?hy9⟩) (by assumption) ?hr9
    case hy9 => (intro W9 hW9; obtain ⟨k0, k1, k2⟩ := hW9; first | (go_simp; done) | (go_simp; with_reducible rfl))
    simp only [Act.put, getElem_toArray, getElem_cons_succ, getElem_cons_zero, setIfInBounds_toArray, set_cons_zero, set_cons_succ]
    refine goes_take0 (i := 9) (v := ?hv10) rfl (by kernel_rfl) (by kernel_rfl) (by kernel_rfl) rfl (fun _ _ _ h => h) (Or.inl ⟨by rfl, ?hy10⟩) (by assumption) ?hr10
    case hy10 => (intro W9 hW9; obtain ⟨k0, k1, k2⟩ := hW9; first | (go_simp; done) | (go_simp; with_reducible rfl))
    simp only [Act.put, getElem_toArray, getElem_cons_succ, getElem_cons_zero, setIfInBounds_toArray, set_cons_zero, set_cons_succ]
    refine goes_take0 (i := 10) (v := ?hv11) rfl (by kernel_rfl) (by kernel_rfl) (by kernel_rfl) rfl (fun _ _ _ h => h) (Or.inl ⟨by rfl, ?hy11⟩) (by assumption) ?hr11
    case hy11 => (intro W9 hW9; obtain ⟨k0, k1, k2⟩ := hW9; first | (go_simp; done) | (go_simp; with_reducible rfl))
    simp only [Act.put, getElem_toArray, getElem_cons_succ, getElem_cons_zero, setIfInBounds_toArray, set_cons_zero, set_cons_succ]
    refine goes_take0 (i := 11) (v := ?hv12) rfl (by kernel_rfl) (by kernel_rfl) (by kernel_rfl) rfl (fun _ _ _ h => h) (Or.inl ⟨by rfl, ?hy12⟩) (by assumption) ?hr12
    case hy12 => (intro W9 hW9; obtain ⟨k0, k1, k2⟩ := hW9; first | (go_simp; done) | (go_simp; with_reducible rfl))
    simp only [Act.put, getElem_toArray, getElem_cons_succ, getElem_cons_zero, setIfInBounds_toArray, set_cons_zero, set_cons_succ]
    refine goes_take0 (i := 12) (v := ?hv13) rfl (by kernel_rfl) (by kernel_rfl) (by kernel_rfl) rfl (fun _ _ _ h => h) (Or.inl ⟨by rfl, ?hy13⟩) (by assumption) ?hr13
    case hy13 => (intro W9 hW9; obtain ⟨k0, k1, k2⟩ := hW9; first | (go_simp; done) | (go_simp; with_reducible rfl))
    simp only [Act.put, getElem_toArray, getElem_cons_succ, getElem_cons_zero, setIfInBounds_toArray, set_cons_zero, set_cons_succ]
    refine goes_take0 (i := 13) (v := ?hv14) rfl (by kernel_rfl) (by kernel_rfl) (by kernel_rfl) rfl (fun _ _ _ h => h) (Or.inl ⟨by rfl, ?hy14⟩) (by assumption) ?hr14
    case hy14 => (intro W9 hW9; obtain ⟨k0, k1, k2⟩ := hW9; first | (go_simp; done) | (go_simp; with_reducible rfl))
    simp only [Act.put, getElem_toArray, getElem_cons_succ, getElem_cons_zero, setIfInBounds_toArray, set_cons_zero, set_cons_succ]
    obtain ⟨w10, hw10⟩ : ∃ z, w1.drew = z := ⟨_, rfl⟩
    rw [hw10] at hHeld ⊢
    have hb10 : Below w1.heap.size w1 w10 := by rw [← hw10]; exact (Below.refl _ _).drew
    have hs10 : w10.heap.size = N + 1 := by rw [← hw10]; exact hs1
    have hs11 : w10.heap.size = w1.heap.size := by rw [hs10, hs1]
    have HTW := two_spans w10 (b, b, m) (m, m, e)
    have HTX := two_spans2 w10 (b, b, m) (m, m, e)
    clear hw10
    refine goes_two (i := 14) (j := 15) (by kernel_rfl) rfl rfl (fun K9 hK9 => ?_) (fun K9 hK9 => ?_)
    · skip
      go_simp
      have hb1 := new_one w10 (.cells #[.int .i64 0, .int .i64 0, .int .i64 0] 106)
      obtain ⟨k0, k1, k2⟩ := hHeld
      refine hK9.out _ _ (fun _ => ⟨cell_below hb1 k0, cell_below hb1 k1, cell_below hb1 k2⟩) (fun hHeld => ?_)
      have hHeld := hHeld (by decide)
      clear hK9 K9 k0 k1 k2
      refine goes_one (i := 15) (by kernel_rfl) rfl (fun K9 hK9 => ?_)
      go_simp
      have hb2 := new_one (w10.alloc (.cells #[.int .i64 0, .int .i64 0, .int .i64 0] 106)) (.cells #[.int .i64 0, .int .i64 0, .int .i64 0] 106)
      obtain ⟨k0, k1, k2⟩ := hHeld
      refine hK9.out _ _ (fun _ => ⟨cell_below hb2 k0, cell_below hb2 k1, cell_below hb2 k2⟩) (fun hHeld => ?_)
      have hHeld := hHeld (by decide)
      clear hK9 K9 k0 k1 k2
      have hz1 := (heap_alloc_old (w10.alloc (.cells #[.int .i64 0, .int .i64 0, .int .i64 0] 106)) (.cells #[.int .i64 0, .int .i64 0, .int .i64 0] 106) (r := w10.heap.size) (by simp)).trans (heap_alloc_new w10 (.cells #[.int .i64 0, .int .i64 0, .int .i64 0] 106))
      have hz2 := heap_alloc_new (w10.alloc (.cells #[.int .i64 0, .int .i64 0, .int .i64 0] 106)) (.cells #[.int .i64 0, .int .i64 0, .int .i64 0] 106)
      rw [World.size_alloc, hs10] at hz2
      rw [hs10] at hz1 HTW HTX
      refine goes_one (i := 16) (by kernel_rfl) rfl (fun K9 hK9 => ?_)
      rw [if_pos (by rfl)]
      refine wp_store_span (N + 1) (b, b, m) _ hz1 rfl _ _ rfl rfl rfl ?_
      obtain ⟨k0, k1, k2⟩ := hHeld
      have q5 : ∀ {a : Addr} {u : Value} {W9 : World} {cs : Array Value}, W9.cell? a = some u → a.block = N → (W9.setRow (N + 1) cs).cell? a = some u := fun h hne => (World.cell?_of_block (setRow_other _ _ (by omega))).trans h
      refine hK9.out _ _ (fun _ => ⟨q5 k0 rfl, q5 k1 rfl, q5 k2 rfl⟩) (fun hHeld => ?_)
      have hHeld := hHeld (by decide)
      clear hK9 K9 k0 k1 k2 q5
      refine goes_one (i := 17) (by kernel_rfl) rfl (fun K9 hK9 => ?_)
      rw [if_pos (by rfl)]
      refine wp_store_span (N + 1 + 1) (m, m, e) _ ((setRow_other _ _ (by omega)).trans hz2) rfl _ _ rfl rfl rfl ?_
      obtain ⟨k0, k1, k2⟩ := hHeld
      have q5 : ∀ {a : Addr} {u : Value} {W9 : World} {cs : Array Value}, W9.cell? a = some u → a.block = N → (W9.setRow (N + 1 + 1) cs).cell? a = some u := fun h hne => (World.cell?_of_block (setRow_other _ _ (by omega))).trans h
      refine hK9.out _ _ (fun _ => ⟨q5 k0 rfl, q5 k1 rfl, q5 k2 rfl⟩) (fun hHeld => ?_)
      have hHeld := hHeld (by decide)
      clear hK9 K9 k0 k1 k2 q5
      refine goes_done (by kernel_rfl) ?_ _
      exact ⟨(N + 1), (N + 1 + 1), rfl, HTW.base hb10⟩
    · skip
      go_simp
      have hb1 := new_one w10 (.cells #[.int .i64 0, .int .i64 0, .int .i64 0] 106)
      obtain ⟨k0, k1, k2⟩ := hHeld
      refine hK9.out _ _ (fun _ => ⟨cell_below hb1 k0, cell_below hb1 k1, cell_below hb1 k2⟩) (fun hHeld => ?_)
      have hHeld := hHeld (by decide)
      clear hK9 K9 k0 k1 k2
      refine goes_one (i := 14) (by kernel_rfl) rfl (fun K9 hK9 => ?_)
      go_simp
      have hb2 := new_one (w10.alloc (.cells #[.int .i64 0, .int .i64 0, .int .i64 0] 106)) (.cells #[.int .i64 0, .int .i64 0, .int .i64 0] 106)
      obtain ⟨k0, k1, k2⟩ := hHeld
      refine hK9.out _ _ (fun _ => ⟨cell_below hb2 k0, cell_below hb2 k1, cell_below hb2 k2⟩) (fun hHeld => ?_)
      have hHeld := hHeld (by decide)
      clear hK9 K9 k0 k1 k2
      have hz1 := (heap_alloc_old (w10.alloc (.cells #[.int .i64 0, .int .i64 0, .int .i64 0] 106)) (.cells #[.int .i64 0, .int .i64 0, .int .i64 0] 106) (r := w10.heap.size) (by simp)).trans (heap_alloc_new w10 (.cells #[.int .i64 0, .int .i64 0, .int .i64 0] 106))
      have hz2 := heap_alloc_new (w10.alloc (.cells #[.int .i64 0, .int .i64 0, .int .i64 0] 106)) (.cells #[.int .i64 0, .int .i64 0, .int .i64 0] 106)
      rw [World.size_alloc, hs10] at hz2
      rw [hs10] at hz1 HTW HTX
      refine goes_one (i := 16) (by kernel_rfl) rfl (fun K9 hK9 => ?_)
      rw [if_pos (by rfl)]
      refine wp_store_span (N + 1 + 1) (b, b, m) _ hz2 rfl _ _ rfl rfl rfl ?_
      obtain ⟨k0, k1, k2⟩ := hHeld
      have q5 : ∀ {a : Addr} {u : Value} {W9 : World} {cs : Array Value}, W9.cell? a = some u → a.block = N → (W9.setRow (N + 1 + 1) cs).cell? a = some u := fun h hne => (World.cell?_of_block (setRow_other _ _ (by omega))).trans h
      refine hK9.out _ _ (fun _ => ⟨q5 k0 rfl, q5 k1 rfl, q5 k2 rfl⟩) (fun hHeld => ?_)
      have hHeld := hHeld (by decide)
      clear hK9 K9 k0 k1 k2 q5
      refine goes_one (i := 17) (by kernel_rfl) rfl (fun K9 hK9 => ?_)
      rw [if_pos (by rfl)]
      refine wp_store_span (N + 1) (m, m, e) _ ((setRow_other _ _ (by omega)).trans hz1) rfl _ _ rfl rfl rfl ?_
      obtain ⟨k0, k1, k2⟩ := hHeld
      have q5 : ∀ {a : Addr} {u : Value} {W9 : World} {cs : Array Value}, W9.cell? a = some u → a.block = N → (W9.setRow (N + 1) cs).cell? a = some u := fun h hne => (World.cell?_of_block (setRow_other _ _ (by omega))).trans h
      refine hK9.out _ _ (fun _ => ⟨q5 k0 rfl, q5 k1 rfl, q5 k2 rfl⟩) (fun hHeld => ?_)
      have hHeld := hHeld (by decide)
      clear hK9 K9 k0 k1 k2 q5
      refine goes_done (by kernel_rfl) ?_ _
      exact ⟨(N + 1 + 1), (N + 1), rfl, HTX.base hb10⟩
  rintro a W ⟨bk, bm, rfl, htw⟩
  have hk0 := htw.k0
  have hm0 := htw.m0
  have hkm := htw.ne
  obtain ⟨k0, k1, k2⟩ := htw.kx.cells
  obtain ⟨j0, j1, j2⟩ := htw.my.cells
  have HKX := Lib.hid htw.kx
  have HMY := Lib.hid htw.my
  have hHPA := HPA1.out.keep (w' := W) fun q hq _ => htw.bel.block q hq
  have HBW := Lib.hid (HB1.out.trans (htw.bel.mono HB1.out.size))
  have hNw := HNW.out
  have HPA := Lib.hid hHPA
  have HZ := Lib.hid (fun W5 => psize_any b b m W5 h1 (by omega))
  have HY := Lib.hid (fun W5 => psize_any m m e W5 h2 (by omega))
  obtain ⟨l1, hl1⟩ : ∃ l1, m - b = l1 := ⟨_, rfl⟩
  obtain ⟨l2, hl2⟩ : ∃ l2, e - m = l2 := ⟨_, rfl⟩
  rw [hl1] at HZ
  rw [hl2] at HY
  have hWs := htw.bel.size
  have hkl := lt_of_block htw.kx
  have hml := lt_of_block htw.my
  clear htw hHPA HPA1 HB1
  go_upto_region 2 with fail
  dsimp only at k0 k1 k2 j0 j1 j2
  have k0 : W.drew.cell? ⟨bk, 0, none⟩ = some (.int .i64 b) := k0
  have k1 : W.drew.cell? ⟨bk, 1, none⟩ = some (.int .i64 b) := k1
  have k2 : W.drew.cell? ⟨bk, 2, none⟩ = some (.int .i64 m) := k2
  have j0 : W.drew.cell? ⟨bm, 0, none⟩ = some (.int .i64 m) := j0
  have j1 : W.drew.cell? ⟨bm, 1, none⟩ = some (.int .i64 m) := j1
  have j2 : W.drew.cell? ⟨bm, 2, none⟩ = some (.int .i64 e) := j2
  refine region_goes 105 5 rfl (fun W => W.cell? ⟨bk, 0, none⟩ = some (.int .i64 b) ∧ W.cell? ⟨bk, 1, none⟩ = some (.int .i64 b) ∧ W.cell? ⟨bk, 2, none⟩ = some (.int .i64 m) ∧ W.cell? ⟨bm, 0, none⟩ = some (.int .i64 m) ∧ W.cell? ⟨bm, 1, none⟩ = some (.int .i64 m) ∧ W.cell? ⟨bm, 2, none⟩ = some (.int .i64 e)) mixed ⟨k0, k1, k2, j0, j1, j2⟩ (fun hHeld => ?_)
  clear k0 k1 k2 j0 j1 j2
  refine goes_take0 (i := 0) (v := ?hv15) rfl (by kernel_rfl) (by kernel_rfl) (by kernel_rfl) rfl (fun _ _ _ h => h) (Or.inl ⟨by rfl, ?hy15⟩) (by assumption) ?hr15
  case hy15 => (intro W9 hW9; obtain ⟨k0, k1, k2, j0, j1, j2⟩ := hW9; first | (go_simp; done) | (go_simp; with_reducible rfl))
  simp only [Act.put, getElem_toArray, getElem_cons_succ, getElem_cons_zero, setIfInBounds_toArray, set_cons_zero, set_cons_succ]
  refine goes_take0 (i := 2) (v := ?hv16) rfl (by kernel_rfl) (by kernel_rfl) (by kernel_rfl) rfl (fun _ _ _ h => h) (Or.inl ⟨by rfl, ?hy16⟩) (by assumption) ?hr16
  case hy16 => (intro W9 hW9; obtain ⟨k0, k1, k2, j0, j1, j2⟩ := hW9; first | (go_simp; done) | (go_simp; with_reducible rfl))
  simp only [Act.put, getElem_toArray, getElem_cons_succ, getElem_cons_zero, setIfInBounds_toArray, set_cons_zero, set_cons_succ]
  refine goes_one (i := 1) (by kernel_rfl) rfl (fun K9 hK9 => ?_)
  go_simp
  refine (HZ.out _).mono ?_
  rintro x9 w5 ⟨rfl, w5b⟩
  obtain ⟨k0, k1, k2, j0, j1, j2⟩ := hHeld
  refine hK9.out _ _ (fun _ => ⟨cell_below w5b k0, cell_below w5b k1, cell_below w5b k2, cell_below w5b j0, cell_below w5b j1, cell_below w5b j2⟩) (fun hHeld => ?_)
  have hHeld := hHeld (by decide)
  clear hK9 K9 k0 k1 k2 j0 j1 j2
  refine goes_one (i := 3) (by kernel_rfl) rfl (fun K9 hK9 => ?_)
  go_simp
  refine (HY.out _).mono ?_
  rintro x9 w6 ⟨rfl, w6b⟩
  obtain ⟨k0, k1, k2, j0, j1, j2⟩ := hHeld
  refine hK9.out _ _ (fun _ => ⟨cell_below w6b k0, cell_below w6b k1, cell_below w6b k2, cell_below w6b j0, cell_below w6b j1, cell_below w6b j2⟩) (fun hHeld => ?_)
  have hHeld := hHeld (by decide)
  clear hK9 K9 k0 k1 k2 j0 j1 j2
  refine goes_take0 (i := 4) (v := ?hv17) rfl (by kernel_rfl) (by kernel_rfl) (by kernel_rfl) rfl (fun _ _ _ h => h) (Or.inl ⟨by rfl, ?hy17⟩) (by assumption) ?hr17
  case hy17 => (intro W9 hW9; obtain ⟨k0, k1, k2, j0, j1, j2⟩ := hW9; first | (go_simp; done) | (go_simp; with_reducible rfl))
  simp only [Act.put, getElem_toArray, getElem_cons_succ, getElem_cons_zero, setIfInBounds_toArray, set_cons_zero, set_cons_succ]
  refine goes_done (by kernel_rfl) ?_ _
  have hb6 : Below W.heap.size W w6 := ((Below.refl W.heap.size W).drew.trans w5b).trans (w6b.mono w5b.size)
  have HKX6 := Lib.hid ((hb6.block bk hkl).trans HKX.out)
  have HMY6 := Lib.hid ((hb6.block bm hml).trans HMY.out)
  have HPA6 := Lib.hid (HPA.out.keep (w' := w6) fun q hq _ => hb6.block q hq)
  have HBW6 := Lib.hid (HBW.out.trans (hb6.mono HBW.out.size))
  have hs6 := hb6.size
  obtain ⟨k0, k1, k2, j0, j1, j2⟩ := hHeld
  clear w5b w6b hb6 HKX HMY HPA HBW HZ HY
  obtain ⟨t1, t2, t3, t4, t5⟩ := HLT.out
  by_cases hsw : l1 < l2
  · have hd : decide ((l1 : Int) < l2) = true := decide_eq_true (by omega)
    go_wp2_with (first | (refine wpList_store_span bk (m, m, e) _ HKX6.out rfl rfl _ _ rfl rfl rfl ?_) | (refine wpList_store_span bm (b, b, m) _ ((setRow_other _ _ (fun q => hkm q.symm)).trans HMY6.out) rfl rfl _ _ rfl rfl rfl ?_))
    obtain ⟨w7, hw7⟩ : ∃ w7, (w6.setRow bk #[.int .i64 m, .int .i64 m, .int .i64 e]).setRow bm #[.int .i64 b, .int .i64 b, .int .i64 m] = w7 := ⟨_, rfl⟩
    have HK7 : Hid (SB w7 bk (m, m, e)) := Lib.hid (by rw [← hw7]; exact (setRow_other _ _ hkm).trans (SB.made HKX6.out (m, m, e)))
    have HM7 : Hid (SB w7 bm (b, b, m)) := Lib.hid (by rw [← hw7]; exact SB.made ((setRow_other _ _ (fun q => hkm q.symm)).trans HMY6.out) (b, b, m))
    have HPA7 := Lib.hid (HPA6.out.keep2 (w' := w7) fun q hq => by
      rw [← hw7, setRow_other _ _ (show q ≠ bm by omega), setRow_other _ _ (show q ≠ bk by omega)])
    have HB7 : Hid (Below N w w7) := Lib.hid (by rw [← hw7]; exact below_setRow (below_setRow (hNw ▸ HBW6.out) (by omega) _) (by omega) _)
    have hs7 : w7.heap.size = w6.heap.size := by rw [← hw7]; simp
    have HKO : Hid (keptOf (sp c) = (m, m, e) ∧ movedOf (sp c) = (b, b, m)) := Lib.hid (by unfold keptOf movedOf; rw [HSPC.out.1, HSPC.out.2.1, HSPC.out.2.2, hl1, hl2, if_pos hsw, if_pos hsw]; exact ⟨rfl, rfl⟩)
    rw [hw7]
    clear hw7 HKX6 HMY6 HPA6 HBW6 k0 k1 k2 j0 j1 j2 hd
    have e3 : w7.cell? ⟨bp, 3, none⟩ = some (.slice (some ⟨gs, 0, none⟩) k cs) := (cell_of_row w7 bp 3 _ _ _ HPA7.out.blk).trans rfl
    obtain ⟨k0, k1, k2⟩ := HK7.out.cells
    obtain ⟨z0, z1, z2⟩ := cell_span HPA7.out hc
    have f0 : w7.frozen? ⟨gs, c * 3, none⟩ = false := HPA7.out.rs.frozenAt _
    have f1 : w7.frozen? ⟨gs, c * 3 + 1, none⟩ = false := HPA7.out.rs.frozenAt _
    have f2 : w7.frozen? ⟨gs, c * 3 + 2, none⟩ = false := HPA7.out.rs.frozenAt _
    go_upto_region 4 with fail
    go_region
    obtain ⟨w8, hw8⟩ : ∃ w8, (((w7.setCell ⟨gs, c * 3, none⟩ (.int .i64 (m : Nat))).setCell ⟨gs, c * 3 + 1, none⟩ (.int .i64 (m : Nat))).setCell ⟨gs, c * 3 + 2, none⟩ (.int .i64 (e : Nat))).drew = w8 := ⟨_, rfl⟩
    have HPA8 : Hid (PA w8 bp B n k go gp gc gs co cp cc cs O P C (upd sp c (m, m, e))) := Lib.hid (by rw [← hw8]; exact (HPA7.out.span hc (m, m, e)).keep2 fun _ _ => rfl)
    have HM8 : Hid (SB w8 bm (b, b, m)) := Lib.hid (by
      rw [← hw8]
      show (((w7.setCell _ _).setCell _ _).setCell _ _).heap[bm]? = _
      rw [Below.heap_setCell _ _ _ _ (show bm ≠ gs by omega), Below.heap_setCell _ _ _ _ (show bm ≠ gs by omega), Below.heap_setCell _ _ _ _ (show bm ≠ gs by omega)]
      exact HM7.out)
    have HO8 : Hid (Oth w w8 (OwnP bp gc gs)) := Lib.hid (by
      rw [← hw8]
      exact ((((Oth.of_below (S := OwnP bp gc gs) (by rw [hNw]; exact HB7.out)).trans (Oth.of_set w7 (S := OwnP bp gc gs) ⟨gs, c * 3, none⟩ _ (.inr (.inr rfl))) (fun _ _ h => h)).trans (Oth.of_set _ (S := OwnP bp gc gs) ⟨gs, c * 3 + 1, none⟩ _ (.inr (.inr rfl))) (fun _ _ h => h)).trans (Oth.of_set _ (S := OwnP bp gc gs) ⟨gs, c * 3 + 2, none⟩ _ (.inr (.inr rfl))) (fun _ _ h => h)).trans (Oth.of_below (S := OwnP bp gc gs) (Below.refl _ _).drew) (fun _ _ h => h))
    have hs8 : w8.heap.size = w6.heap.size := by rw [← hw8, ← hs7]; show (((w7.setCell _ _).setCell _ _).setCell _ _).heap.size = _; simp
    rw [hw8]
    clear hw8 e3 k0 k1 k2 z0 z1 z2 f0 f1 f2 HPA7 HK7 HM7 HB7
    have HSM := Lib.hid (psize_any b b m w8 (by omega) (by omega))
    rw [hl1] at HSM
    obtain ⟨j0, j1, j2⟩ := HM8.out.cells
    by_cases hl0 : l1 = 0
    · have hz : ((l1 : Int) == 0) = true := by rw [beq_iff_eq]; omega
      go_wp2_with (go_at_call 71; refine HSM.out.mono ?_; rintro x9 w9 ⟨rfl, hb9⟩)
      refine bodyPost_ret (results_none rfl _ _ _) rfl ?_
      exact ⟨rfl, Lib.hid ⟨HO8.out.trans (Oth.of_below hb9) (fun _ _ h => h), gs, cs, .inl rfl, .inl ⟨by rw [HKO.out.2]; show m - b = 0; omega, by rw [HKO.out.1]; exact HPA8.out.keep fun q hq _ => hb9.block q hq⟩⟩⟩
    · have hz : ((l1 : Int) == 0) = false := by rw [beq_eq_false_iff_ne]; omega
      go_upto_region 6 with (go_at_call 71; refine HSM.out.mono ?_; rintro x9 w9 ⟨rfl, hb9⟩)
      have HPA9 := Lib.hid (HPA8.out.keep (w' := w9) fun q hq _ => hb9.block q hq)
      have HM9 := Lib.hid ((hb9.block bm (by omega)).trans HM8.out)
      have HO9 := Lib.hid (HO8.out.trans (Oth.of_below (S := OwnP bp gc gs) hb9) (fun _ _ h => h))
      have hs9 := hb9.size
      clear hb9 HPA8 HM8 HO8 HSM j0 j1 j2
      have e0 : w9.cell? ⟨bp, 0, none⟩ = some (.slice (some ⟨go, 0, none⟩) n co) := (cell_of_row w9 bp 0 _ _ _ HPA9.out.blk).trans rfl
      obtain ⟨j0, j1, j2⟩ := (show SB w9 bm (b, b, m) from HM9.out).cells
      have hcap := row_cap HPA9.out.ro
      have q1 : (b : Int) ≤ m := by omega
      have q2 : (m : Int) ≤ co := by omega
      go_quiet (fail)
      have hb10 := below_drewN w9 nq
      obtain ⟨w10, hw10⟩ : ∃ w10, w9.drewN nq = w10 := ⟨_, rfl⟩
      have HPA10 := Lib.hid (HPA9.out.keep (w' := w9.drewN nq) fun _ _ _ => rfl)
      have HM10 : Hid (SB (w9.drewN nq) bm (b, b, m)) := HM9
      have HO10 := Lib.hid (HO9.out.trans (Oth.of_below (S := OwnP bp gc gs) hb10) (fun _ _ h => h))
      have hs10 := hb10.size
      rw [hw10] at HPA10 HM10 HO10 hs10
      rw [hw10]
      clear hw10 hb10 HPA9 HM9 HO9 e0 j0 j1 j2
      have HPAU : Hid (PA w10 bp B n k go gp gc gs co cp cc cs O P (clsUp O C k b 0) (upd sp c (m, m, e))) := HPA10
      clear HPA10
      go_wp2
      go_loopw [57] (fun z wr => ∃ i : Nat, z = .int .i64 i ∧ i ≤ l1 ∧ Hid (PA wr bp B n k go gp gc gs co cp cc cs O P (clsUp O C k b i) (upd sp c (m, m, e))) ∧ Hid (SB wr bm (b, b, m)) ∧ Hid (Oth w wr (OwnP bp gc gs)) ∧ w6.heap.size ≤ wr.heap.size) (fun z _ => l1 - (intOf z).toNat)
      case atStart => exact ⟨0, rfl, Nat.zero_le _, HPAU, HM10, HO10, by omega⟩
      case round =>
        clear HPAU HM10 HO10
        obtain ⟨i, rfl, hi, HPAI, HMI, HOI, hsI⟩ := hrel
        by_cases hlt : i < l1
        · have hd : decide ((i : Int) < l1) = true := decide_eq_true (by omega)
          have hil : (i : Int) < l1 := by omega
          have hpn : b + i < n := by omega
          have e0 : wr.cell? ⟨go, b + i, none⟩ = some (.int .i64 (O (b + i) : Nat)) := by rw [HPAI.out.ro.cellAt _ (by omega), natsV_at O hpn]
          have hst := hO _ hpn
          obtain ⟨st, hst9⟩ : ∃ st, O (b + i) = st := ⟨_, rfl⟩
          rw [hst9] at e0 hst
          have istn : (st : Int) < n := by omega
          have e2 : wr.cell? ⟨bp, 2, none⟩ = some (.slice (some ⟨gc, 0, none⟩) n cc) := (cell_of_row wr bp 2 _ _ _ HPAI.out.blk).trans rfl
          have e3 : wr.cell? ⟨bp, 3, none⟩ = some (.slice (some ⟨gs, 0, none⟩) k cs) := (cell_of_row wr bp 3 _ _ _ HPAI.out.blk).trans rfl
          have e4 : wr.cell? ⟨gc, st, none⟩ = some (.int .i64 (clsUp O C k b i st : Nat)) := by rw [HPAI.out.rc.cellAt _ (by omega), natsV_at _ hst]
          have f4 : wr.frozen? ⟨gc, st, none⟩ = false := HPAI.out.rc.frozenAt st
          go_upto_region 9 with fail
          go_region
          obtain ⟨w11, hw11⟩ : ∃ w11, (wr.setCell ⟨gc, st, none⟩ (.int .i64 (k : Nat))).drew = w11 := ⟨_, rfl⟩
          have HPN : Hid (PA w11 bp B n k go gp gc gs co cp cc cs O P (clsUp O C k b (i + 1)) (upd sp c (m, m, e))) := Lib.hid (by
            have h9 := (HPAI.out.cls st k).keep2 (w' := w11) fun q _ => by rw [← hw11]; rfl
            show PA w11 bp B n k go gp gc gs co cp cc cs O P (upd (clsUp O C k b i) (O (b + i)) k) _
            rw [hst9]; exact h9)
          have HMN : Hid (SB w11 bm (b, b, m)) := Lib.hid (by
            rw [← hw11]
            show (wr.setCell _ _).heap[bm]? = _
            rw [Below.heap_setCell _ _ _ _ (show bm ≠ gc by omega)]; exact HMI.out)
          have HON : Hid (Oth w w11 (OwnP bp gc gs)) := Lib.hid (by
            rw [← hw11]
            exact (HOI.out.trans (Oth.of_set wr (S := OwnP bp gc gs) ⟨gc, st, none⟩ _ (.inr (.inl rfl))) (fun _ _ h => h)).trans (Oth.of_below (S := OwnP bp gc gs) (Below.refl _ _).drew) (fun _ _ h => h))
          have hsN : w6.heap.size ≤ w11.heap.size := by rw [← hw11]; show _ ≤ (wr.setCell _ _).heap.size; simpa using hsI
          rw [hw11]
          clear hw11 HPAI HMI HOI e0 e2 e3 e4 f4
          go_wp2
          go_roundw
          case rel => exact ⟨i + 1, num_succ i, by omega, HPN, HMN, HON, hsN⟩
          case measure => simp [intOf]; omega
        · obtain rfl : i = l1 := by omega
          have hd : decide ((i : Int) < i) = false := by simp
          have hxb := HPAI.out.blk
          obtain ⟨j0, j1, j2⟩ := HMI.out.cells
          go_upto_region 11 with fail
          have e0 : wr.drew.cell? ⟨bp, 3, none⟩ = some (.slice (some ⟨gs, 0, none⟩) k cs) := (cell_of_row wr bp 3 _ _ _ hxb).trans rfl
          have e1 : wr.drew.cell? ⟨bm, 0, none⟩ = some (.int .i64 (b : Nat)) := j0
          have e2 : wr.drew.cell? ⟨bm, 1, none⟩ = some (.int .i64 (b : Nat)) := j1
          have e4 : wr.drew.cell? ⟨bm, 2, none⟩ = some (.int .i64 (m : Nat)) := j2
          clear j0 j1 j2 hxb hd
          refine region_goes 10 11 rfl (fun W => W.cell? ⟨bp, 3, none⟩ = some (.slice (some ⟨gs, 0, none⟩) k cs) ∧ W.cell? ⟨bm, 0, none⟩ = some (.int .i64 (b : Nat)) ∧ W.cell? ⟨bm, 1, none⟩ = some (.int .i64 (b : Nat)) ∧ W.cell? ⟨bm, 2, none⟩ = some (.int .i64 (m : Nat))) mixed ⟨e0, e1, e2, e4⟩ (fun hHeld => ?_)
          clear e0 e1 e2 e4
          refine goes_take (i := 0) (v := ?gv1) rfl (by kernel_rfl) (by kernel_rfl) (by kernel_rfl) (by kernel_rfl) (fun _ _ _ h => h) (Or.inl ⟨by rfl, ?gy1⟩) (by assumption) ?gr1
          case gy1 => (intro W9 hW9; obtain ⟨k0, k1, k2, k3⟩ := hW9; first | (go_simp; done) | (go_simp; with_reducible rfl))
          simp only [Act.put, getElem_toArray, getElem_cons_succ, getElem_cons_zero, setIfInBounds_toArray, set_cons_zero, set_cons_succ]
          refine goes_take (i := 1) (v := ?gv2) rfl (by kernel_rfl) (by kernel_rfl) (by kernel_rfl) (by kernel_rfl) (fun _ _ _ h => h) (Or.inl ⟨by rfl, ?gy2⟩) (by assumption) ?gr2
          case gy2 => (intro W9 hW9; obtain ⟨k0, k1, k2, k3⟩ := hW9; first | (go_simp; done) | (go_simp; with_reducible rfl))
          simp only [Act.put, getElem_toArray, getElem_cons_succ, getElem_cons_zero, setIfInBounds_toArray, set_cons_zero, set_cons_succ]
          refine goes_take (i := 2) (v := ?gv3) rfl (by kernel_rfl) (by kernel_rfl) (by kernel_rfl) (by kernel_rfl) (fun _ _ _ h => h) (Or.inl ⟨by rfl, ?gy3⟩) (by assumption) ?gr3
          case gy3 => (intro W9 hW9; obtain ⟨k0, k1, k2, k3⟩ := hW9; first | (go_simp; done) | (go_simp; with_reducible rfl))
          simp only [Act.put, getElem_toArray, getElem_cons_succ, getElem_cons_zero, setIfInBounds_toArray, set_cons_zero, set_cons_succ]
          refine goes_take (i := 3) (v := ?gv4) rfl (by kernel_rfl) (by kernel_rfl) (by kernel_rfl) (by kernel_rfl) (fun _ _ _ h => h) (Or.inl ⟨by rfl, ?gy4⟩) (by assumption) ?gr4
          case gy4 => (intro W9 hW9; obtain ⟨k0, k1, k2, k3⟩ := hW9; first | (go_simp; done) | (go_simp; with_reducible rfl))
          simp only [Act.put, getElem_toArray, getElem_cons_succ, getElem_cons_zero, setIfInBounds_toArray, set_cons_zero, set_cons_succ]
          refine goes_take (i := 4) (v := ?gv5) rfl (by kernel_rfl) (by kernel_rfl) (by kernel_rfl) (by kernel_rfl) (fun _ _ _ h => h) (Or.inl ⟨by rfl, ?gy5⟩) (by assumption) ?gr5
          case gy5 => (intro W9 hW9; obtain ⟨k0, k1, k2, k3⟩ := hW9; first | (go_simp; done) | (go_simp; with_reducible rfl))
          simp only [Act.put, getElem_toArray, getElem_cons_succ, getElem_cons_zero, setIfInBounds_toArray, set_cons_zero, set_cons_succ]
          refine goes_take (i := 5) (v := ?gv6) rfl (by kernel_rfl) (by kernel_rfl) (by kernel_rfl) (by kernel_rfl) (fun _ _ _ h => h) (Or.inl ⟨by rfl, ?gy6⟩) (by assumption) ?gr6
          case gy6 => (intro W9 hW9; obtain ⟨k0, k1, k2, k3⟩ := hW9; first | (go_simp; done) | (go_simp; with_reducible rfl))
          simp only [Act.put, getElem_toArray, getElem_cons_succ, getElem_cons_zero, setIfInBounds_toArray, set_cons_zero, set_cons_succ]
          refine goes_one (i := 6) (by kernel_rfl) rfl (fun K9 hK9 => ?_)
          go_simp
          obtain ⟨w12, hw12⟩ : ∃ w12, (wr.alloc (.cells #[.int .i64 (b : Nat), .int .i64 (b : Nat), .int .i64 (m : Nat)] 106)).drew = w12 := ⟨_, rfl⟩
          have hba : Below wr.heap.size wr w12 := by
            have h := new_one wr (.cells #[.int .i64 (b : Nat), .int .i64 (b : Nat), .int .i64 (m : Nat)] 106)
            rw [← hw12]; exact ⟨h.os, h.tape, h.output, h.size, h.block⟩
          have hbd : Below wr.drew.heap.size wr.drew w12 := ⟨hba.os, hba.tape, hba.output, hba.size, hba.block⟩
          have hxn : w12.heap[wr.heap.size]? = some (.cells #[.int .i64 (b : Nat), .int .i64 (b : Nat), .int .i64 (m : Nat)] 106 (0, 0)) := by rw [← hw12]; exact heap_alloc_new wr _
          have hs12 : w12.heap.size = wr.heap.size + 1 := by rw [← hw12]; show (wr.alloc _).heap.size = _; simp
          have HP12 := Lib.hid (HPAI.out.keep fun q hq _ => hba.block q hq)
          have HO12 := Lib.hid (HOI.out.trans (Oth.of_below (S := OwnP bp gc gs) hba) (fun _ _ h => h))
          obtain ⟨k0, k1, k2, k3⟩ := hHeld
          have hk6 := And.intro (cell_below hbd k0) (And.intro (cell_below hbd k1) (And.intro (cell_below hbd k2) (cell_below hbd k3)))
          try rw [hw12]
          refine hK9.out _ _ (fun _ => hk6) (fun hHeld => ?_)
          have hHeld := hHeld (by decide)
          clear hK9 K9 k0 k1 k2 k3 hk6 hw12 hbd
          refine goes_one (i := 7) (by kernel_rfl) rfl (fun K9 hK9 => ?_)
          rw [if_pos (by rfl)]
          refine wp_append_lies _ _ _ 81 rfl B 106 i0 (.agg #[.int .i64 0, .int .i64 0, .int .i64 0]) 3 24 Try.underlying81 HI.out.1 HI.out.2.1 HI.out.2.2.1 HI.out.2.2.2 rfl (by decide) (.slice (some ⟨gs, 0, none⟩) k cs) k (spansV k (upd sp c (m, m, e))) rfl HP12.out.rs ⟨wr.heap.size, 0, none⟩ 1 1 (spanV (b, b, m)) rfl rfl (news_in (cs := #[.int .i64 (b : Nat), .int .i64 (b : Nat), .int .i64 (m : Nat)]) hxn) (by simp [Value.oneCell', spanV]) (by omega) (by unfold maxLen; omega) (by omega) (by omega) (wr.heap.size + 1) hs12 ?_
          intro g9 cap2 w13 a2 a3 a4 a5
          have a3 : w12.grownBy w13 (some gs) := a3
          have hv9 : g9 = gs ∨ w12.heap.size ≤ g9 := by
            rcases a4 with a4 | a4
            · exact .inl (by cases a4; rfl)
            · exact .inr (by omega)
          have HPE := Lib.hid (HP12.out.append (y := (b, b, m)) a3 a2 hv9)
          have HOE := Lib.hid ((HO12.out.trans (Oth.of_gb (S := OwnP bp gc gs) a3 fun q e => by cases e; exact .inr (.inr rfl)) (fun _ _ h => h)).trans (Oth.of_set w13 (S := OwnP bp gc gs) ⟨bp, 3, none⟩ (.slice (some ⟨g9, 0, none⟩) (k + 1) cap2) (.inl rfl)) (fun _ _ h => h))
          have HG9 : Hid (g9 = gs ∨ w.heap.size ≤ g9) := Lib.hid (hv9.imp_right fun hq => by omega)
          have hfa := HPAI.out.far
          have hgsB := (HPAI.out.rs.lt gs rfl).1
          have hbpl := lt_of_block HP12.out.blk
          have hx13 : w13.heap[bp]? = w12.heap[bp]? := a3.block bp hbpl (by simp; omega)
          have hcl13 : w13.cell? ⟨bp, 3, none⟩ = some (.slice (some ⟨gs, 0, none⟩) k cs) := (cell_of_row w13 bp 3 _ _ _ (hx13.trans HP12.out.blk)).trans rfl
          have hfz13 : w13.frozen? ⟨bp, 3, none⟩ = false := frozen_row (j := 3) (hx13.trans HP12.out.blk)
          obtain ⟨k0, k1, k2, k3⟩ := hHeld
          have hk8 : ∀ {a : Addr} {v : Value}, w12.cell? a = some v → a.block ≠ gs → w13.cell? a = some v := fun hc hn => (World.cell?_of_block (a3.block _ (cell_lt hc) (by simp; omega))).trans hc
          refine hK9.out _ _ (fun _ => ⟨hcl13, hk8 k1 (by show bm ≠ gs; omega), hk8 k2 (by show bm ≠ gs; omega), hk8 k3 (by show bm ≠ gs; omega)⟩) (fun hHeld => ?_)
          have hHeld := hHeld (by decide)
          clear hK9 K9 k0 k1 k2 k3 hk8 a2 a3 a4 a5 hxn hba hv9 HP12 HO12
          refine goes_one (i := 8) (by kernel_rfl) rfl (fun K9 hK9 => ?_)
          go_simp
          refine hK9.out _ _ (fun _ => hHeld) (fun hHeld => ?_)
          have hHeld := hHeld (by decide)
          clear hK9 K9
          refine goes_one (i := 9) (by kernel_rfl) rfl (fun K9 hK9 => ?_)
          go_simp
          refine hK9.out _ _ (fun _ => hHeld) (fun hHeld => ?_)
          have hHeld := hHeld (by decide)
          clear hK9 K9
          refine goes_one (i := 10) (by kernel_rfl) rfl (fun K9 hK9 => ?_)
          go_simp
          refine hK9.out _ _ (fun h => absurd rfl h) (fun _ => ?_)
          clear hK9 K9 hHeld
          refine goes_done (by kernel_rfl) ?_ _
          go_end0
          have hll : m - b = i := by omega
          exact ⟨rfl, Lib.hid ⟨HOE.out, g9, cap2, HG9.out, .inr ⟨by rw [HKO.out.2]; show 0 < m - b; omega, by rw [HKO.out.1, HKO.out.2]; show PA _ bp B n (k + 1) go gp gc g9 co cp cc cap2 O P (clsUp O C k b (m - b)) _; rw [hll]; exact HPE.out⟩⟩⟩
  · have hd : decide ((l1 : Int) < l2) = false := decide_eq_false (by omega)
    go_upto_region 4 with fail
    obtain ⟨w7, hw7⟩ : ∃ w7, w7 = w6 := ⟨_, rfl⟩
    have HK7 : Hid (SB w7 bk (b, b, m)) := Lib.hid (by rw [hw7]; exact HKX6.out)
    have HM7 : Hid (SB w7 bm (m, m, e)) := Lib.hid (by rw [hw7]; exact HMY6.out)
    have HPA7 : Hid (PA w7 bp B n k go gp gc gs co cp cc cs O P C sp) := Lib.hid (by rw [hw7]; exact HPA6.out)
    have HB7 : Hid (Below N w w7) := Lib.hid (by rw [hw7]; exact hNw ▸ HBW6.out)
    have hs7 : w7.heap.size = w6.heap.size := by rw [hw7]
    have HKO : Hid (keptOf (sp c) = (b, b, m) ∧ movedOf (sp c) = (m, m, e)) := Lib.hid (by unfold keptOf movedOf; rw [HSPC.out.1, HSPC.out.2.1, HSPC.out.2.2, hl1, hl2, if_neg hsw, if_neg hsw]; exact ⟨rfl, rfl⟩)
    rw [← hw7]
    clear hw7 HKX6 HMY6 HPA6 HBW6 k0 k1 k2 j0 j1 j2 hd
    have e3 : w7.cell? ⟨bp, 3, none⟩ = some (.slice (some ⟨gs, 0, none⟩) k cs) := (cell_of_row w7 bp 3 _ _ _ HPA7.out.blk).trans rfl
    obtain ⟨k0, k1, k2⟩ := HK7.out.cells
    obtain ⟨z0, z1, z2⟩ := cell_span HPA7.out hc
    have f0 : w7.frozen? ⟨gs, c * 3, none⟩ = false := HPA7.out.rs.frozenAt _
    have f1 : w7.frozen? ⟨gs, c * 3 + 1, none⟩ = false := HPA7.out.rs.frozenAt _
    have f2 : w7.frozen? ⟨gs, c * 3 + 2, none⟩ = false := HPA7.out.rs.frozenAt _
    go_region
    obtain ⟨w8, hw8⟩ : ∃ w8, (((w7.setCell ⟨gs, c * 3, none⟩ (.int .i64 (b : Nat))).setCell ⟨gs, c * 3 + 1, none⟩ (.int .i64 (b : Nat))).setCell ⟨gs, c * 3 + 2, none⟩ (.int .i64 (m : Nat))).drew = w8 := ⟨_, rfl⟩
    have HPA8 : Hid (PA w8 bp B n k go gp gc gs co cp cc cs O P C (upd sp c (b, b, m))) := Lib.hid (by rw [← hw8]; exact (HPA7.out.span hc (b, b, m)).keep2 fun _ _ => rfl)
    have HM8 : Hid (SB w8 bm (m, m, e)) := Lib.hid (by
      rw [← hw8]
      show (((w7.setCell _ _).setCell _ _).setCell _ _).heap[bm]? = _
      rw [Below.heap_setCell _ _ _ _ (show bm ≠ gs by omega), Below.heap_setCell _ _ _ _ (show bm ≠ gs by omega), Below.heap_setCell _ _ _ _ (show bm ≠ gs by omega)]
      exact HM7.out)
    have HO8 : Hid (Oth w w8 (OwnP bp gc gs)) := Lib.hid (by
      rw [← hw8]
      exact ((((Oth.of_below (S := OwnP bp gc gs) (by rw [hNw]; exact HB7.out)).trans (Oth.of_set w7 (S := OwnP bp gc gs) ⟨gs, c * 3, none⟩ _ (.inr (.inr rfl))) (fun _ _ h => h)).trans (Oth.of_set _ (S := OwnP bp gc gs) ⟨gs, c * 3 + 1, none⟩ _ (.inr (.inr rfl))) (fun _ _ h => h)).trans (Oth.of_set _ (S := OwnP bp gc gs) ⟨gs, c * 3 + 2, none⟩ _ (.inr (.inr rfl))) (fun _ _ h => h)).trans (Oth.of_below (S := OwnP bp gc gs) (Below.refl _ _).drew) (fun _ _ h => h))
    have hs8 : w8.heap.size = w6.heap.size := by rw [← hw8, ← hs7]; show (((w7.setCell _ _).setCell _ _).setCell _ _).heap.size = _; simp
    rw [hw8]
    clear hw8 e3 k0 k1 k2 z0 z1 z2 f0 f1 f2 HPA7 HK7 HM7 HB7
    have HSM := Lib.hid (psize_any m m e w8 (by omega) (by omega))
    rw [hl2] at HSM
    obtain ⟨j0, j1, j2⟩ := HM8.out.cells
    by_cases hl0 : l2 = 0
    · have hz : ((l2 : Int) == 0) = true := by rw [beq_iff_eq]; omega
      go_wp2_with (go_at_call 71; refine HSM.out.mono ?_; rintro x9 w9 ⟨rfl, hb9⟩)
      refine bodyPost_ret (results_none rfl _ _ _) rfl ?_
      exact ⟨rfl, Lib.hid ⟨HO8.out.trans (Oth.of_below hb9) (fun _ _ h => h), gs, cs, .inl rfl, .inl ⟨by rw [HKO.out.2]; show e - m = 0; omega, by rw [HKO.out.1]; exact HPA8.out.keep fun q hq _ => hb9.block q hq⟩⟩⟩
    · have hz : ((l2 : Int) == 0) = false := by rw [beq_eq_false_iff_ne]; omega
      go_upto_region 6 with (go_at_call 71; refine HSM.out.mono ?_; rintro x9 w9 ⟨rfl, hb9⟩)
      have HPA9 := Lib.hid (HPA8.out.keep (w' := w9) fun q hq _ => hb9.block q hq)
      have HM9 := Lib.hid ((hb9.block bm (by omega)).trans HM8.out)
      have HO9 := Lib.hid (HO8.out.trans (Oth.of_below (S := OwnP bp gc gs) hb9) (fun _ _ h => h))
      have hs9 := hb9.size
      clear hb9 HPA8 HM8 HO8 HSM j0 j1 j2
      have e0 : w9.cell? ⟨bp, 0, none⟩ = some (.slice (some ⟨go, 0, none⟩) n co) := (cell_of_row w9 bp 0 _ _ _ HPA9.out.blk).trans rfl
      obtain ⟨j0, j1, j2⟩ := (show SB w9 bm (m, m, e) from HM9.out).cells
      have hcap := row_cap HPA9.out.ro
      have q1 : (m : Int) ≤ e := by omega
      have q2 : (e : Int) ≤ co := by omega
      go_quiet (fail)
      have hb10 := below_drewN w9 nq
      obtain ⟨w10, hw10⟩ : ∃ w10, w9.drewN nq = w10 := ⟨_, rfl⟩
      have HPA10 := Lib.hid (HPA9.out.keep (w' := w9.drewN nq) fun _ _ _ => rfl)
      have HM10 : Hid (SB (w9.drewN nq) bm (m, m, e)) := HM9
      have HO10 := Lib.hid (HO9.out.trans (Oth.of_below (S := OwnP bp gc gs) hb10) (fun _ _ h => h))
      have hs10 := hb10.size
      rw [hw10] at HPA10 HM10 HO10 hs10
      rw [hw10]
      clear hw10 hb10 HPA9 HM9 HO9 e0 j0 j1 j2
      have HPAU : Hid (PA w10 bp B n k go gp gc gs co cp cc cs O P (clsUp O C k m 0) (upd sp c (b, b, m))) := HPA10
      clear HPA10
      go_wp2
      go_loopw [57] (fun z wr => ∃ i : Nat, z = .int .i64 i ∧ i ≤ l2 ∧ Hid (PA wr bp B n k go gp gc gs co cp cc cs O P (clsUp O C k m i) (upd sp c (b, b, m))) ∧ Hid (SB wr bm (m, m, e)) ∧ Hid (Oth w wr (OwnP bp gc gs)) ∧ w6.heap.size ≤ wr.heap.size) (fun z _ => l2 - (intOf z).toNat)
      case atStart => exact ⟨0, rfl, Nat.zero_le _, HPAU, HM10, HO10, by omega⟩
      case round =>
        clear HPAU HM10 HO10
        obtain ⟨i, rfl, hi, HPAI, HMI, HOI, hsI⟩ := hrel
        by_cases hlt : i < l2
        · have hd : decide ((i : Int) < l2) = true := decide_eq_true (by omega)
          have hil : (i : Int) < l2 := by omega
          have hpn : m + i < n := by omega
          have e0 : wr.cell? ⟨go, m + i, none⟩ = some (.int .i64 (O (m + i) : Nat)) := by rw [HPAI.out.ro.cellAt _ (by omega), natsV_at O hpn]
          have hst := hO _ hpn
          obtain ⟨st, hst9⟩ : ∃ st, O (m + i) = st := ⟨_, rfl⟩
          rw [hst9] at e0 hst
          have istn : (st : Int) < n := by omega
          have e2 : wr.cell? ⟨bp, 2, none⟩ = some (.slice (some ⟨gc, 0, none⟩) n cc) := (cell_of_row wr bp 2 _ _ _ HPAI.out.blk).trans rfl
          have e3 : wr.cell? ⟨bp, 3, none⟩ = some (.slice (some ⟨gs, 0, none⟩) k cs) := (cell_of_row wr bp 3 _ _ _ HPAI.out.blk).trans rfl
          have e4 : wr.cell? ⟨gc, st, none⟩ = some (.int .i64 (clsUp O C k m i st : Nat)) := by rw [HPAI.out.rc.cellAt _ (by omega), natsV_at _ hst]
          have f4 : wr.frozen? ⟨gc, st, none⟩ = false := HPAI.out.rc.frozenAt st
          go_upto_region 9 with fail
          go_region
          obtain ⟨w11, hw11⟩ : ∃ w11, (wr.setCell ⟨gc, st, none⟩ (.int .i64 (k : Nat))).drew = w11 := ⟨_, rfl⟩
          have HPN : Hid (PA w11 bp B n k go gp gc gs co cp cc cs O P (clsUp O C k m (i + 1)) (upd sp c (b, b, m))) := Lib.hid (by
            have h9 := (HPAI.out.cls st k).keep2 (w' := w11) fun q _ => by rw [← hw11]; rfl
            show PA w11 bp B n k go gp gc gs co cp cc cs O P (upd (clsUp O C k m i) (O (m + i)) k) _
            rw [hst9]; exact h9)
          have HMN : Hid (SB w11 bm (m, m, e)) := Lib.hid (by
            rw [← hw11]
            show (wr.setCell _ _).heap[bm]? = _
            rw [Below.heap_setCell _ _ _ _ (show bm ≠ gc by omega)]; exact HMI.out)
          have HON : Hid (Oth w w11 (OwnP bp gc gs)) := Lib.hid (by
            rw [← hw11]
            exact (HOI.out.trans (Oth.of_set wr (S := OwnP bp gc gs) ⟨gc, st, none⟩ _ (.inr (.inl rfl))) (fun _ _ h => h)).trans (Oth.of_below (S := OwnP bp gc gs) (Below.refl _ _).drew) (fun _ _ h => h))
          have hsN : w6.heap.size ≤ w11.heap.size := by rw [← hw11]; show _ ≤ (wr.setCell _ _).heap.size; simpa using hsI
          rw [hw11]
          clear hw11 HPAI HMI HOI e0 e2 e3 e4 f4
          go_wp2
          go_roundw
          case rel => exact ⟨i + 1, num_succ i, by omega, HPN, HMN, HON, hsN⟩
          case measure => simp [intOf]; omega
        · obtain rfl : i = l2 := by omega
          have hd : decide ((i : Int) < i) = false := by simp
          have hxb := HPAI.out.blk
          obtain ⟨j0, j1, j2⟩ := HMI.out.cells
          go_upto_region 11 with fail
          have e0 : wr.drew.cell? ⟨bp, 3, none⟩ = some (.slice (some ⟨gs, 0, none⟩) k cs) := (cell_of_row wr bp 3 _ _ _ hxb).trans rfl
          have e1 : wr.drew.cell? ⟨bm, 0, none⟩ = some (.int .i64 (m : Nat)) := j0
          have e2 : wr.drew.cell? ⟨bm, 1, none⟩ = some (.int .i64 (m : Nat)) := j1
          have e4 : wr.drew.cell? ⟨bm, 2, none⟩ = some (.int .i64 (e : Nat)) := j2
          clear j0 j1 j2 hxb hd
          refine region_goes 10 11 rfl (fun W => W.cell? ⟨bp, 3, none⟩ = some (.slice (some ⟨gs, 0, none⟩) k cs) ∧ W.cell? ⟨bm, 0, none⟩ = some (.int .i64 (m : Nat)) ∧ W.cell? ⟨bm, 1, none⟩ = some (.int .i64 (m : Nat)) ∧ W.cell? ⟨bm, 2, none⟩ = some (.int .i64 (e : Nat))) mixed ⟨e0, e1, e2, e4⟩ (fun hHeld => ?_)
          clear e0 e1 e2 e4
          refine goes_take (i := 0) (v := ?gv7) rfl (by kernel_rfl) (by kernel_rfl) (by kernel_rfl) (by kernel_rfl) (fun _ _ _ h => h) (Or.inl ⟨by rfl, ?gy7⟩) (by assumption) ?gr7
          case gy7 => (intro W9 hW9; obtain ⟨k0, k1, k2, k3⟩ := hW9; first | (go_simp; done) | (go_simp; with_reducible rfl))
          simp only [Act.put, getElem_toArray, getElem_cons_succ, getElem_cons_zero, setIfInBounds_toArray, set_cons_zero, set_cons_succ]
          refine goes_take (i := 1) (v := ?gv8) rfl (by kernel_rfl) (by kernel_rfl) (by kernel_rfl) (by kernel_rfl) (fun _ _ _ h => h) (Or.inl ⟨by rfl, ?gy8⟩) (by assumption) ?gr8
          case gy8 => (intro W9 hW9; obtain ⟨k0, k1, k2, k3⟩ := hW9; first | (go_simp; done) | (go_simp; with_reducible rfl))
          simp only [Act.put, getElem_toArray, getElem_cons_succ, getElem_cons_zero, setIfInBounds_toArray, set_cons_zero, set_cons_succ]
          refine goes_take (i := 2) (v := ?gv9) rfl (by kernel_rfl) (by kernel_rfl) (by kernel_rfl) (by kernel_rfl) (fun _ _ _ h => h) (Or.inl ⟨by rfl, ?gy9⟩) (by assumption) ?gr9
          case gy9 => (intro W9 hW9; obtain ⟨k0, k1, k2, k3⟩ := hW9; first | (go_simp; done) | (go_simp; with_reducible rfl))
          simp only [Act.put, getElem_toArray, getElem_cons_succ, getElem_cons_zero, setIfInBounds_toArray, set_cons_zero, set_cons_succ]
          refine goes_take (i := 3) (v := ?gv10) rfl (by kernel_rfl) (by kernel_rfl) (by kernel_rfl) (by kernel_rfl) (fun _ _ _ h => h) (Or.inl ⟨by rfl, ?gy10⟩) (by assumption) ?gr10
          case gy10 => (intro W9 hW9; obtain ⟨k0, k1, k2, k3⟩ := hW9; first | (go_simp; done) | (go_simp; with_reducible rfl))
          simp only [Act.put, getElem_toArray, getElem_cons_succ, getElem_cons_zero, setIfInBounds_toArray, set_cons_zero, set_cons_succ]
          refine goes_take (i := 4) (v := ?gv11) rfl (by kernel_rfl) (by kernel_rfl) (by kernel_rfl) (by kernel_rfl) (fun _ _ _ h => h) (Or.inl ⟨by rfl, ?gy11⟩) (by assumption) ?gr11
          case gy11 => (intro W9 hW9; obtain ⟨k0, k1, k2, k3⟩ := hW9; first | (go_simp; done) | (go_simp; with_reducible rfl))
          simp only [Act.put, getElem_toArray, getElem_cons_succ, getElem_cons_zero, setIfInBounds_toArray, set_cons_zero, set_cons_succ]
          refine goes_take (i := 5) (v := ?gv12) rfl (by kernel_rfl) (by kernel_rfl) (by kernel_rfl) (by kernel_rfl) (fun _ _ _ h => h) (Or.inl ⟨by rfl, ?gy12⟩) (by assumption) ?gr12
          case gy12 => (intro W9 hW9; obtain ⟨k0, k1, k2, k3⟩ := hW9; first | (go_simp; done) | (go_simp; with_reducible rfl))
          simp only [Act.put, getElem_toArray, getElem_cons_succ, getElem_cons_zero, setIfInBounds_toArray, set_cons_zero, set_cons_succ]
          refine goes_one (i := 6) (by kernel_rfl) rfl (fun K9 hK9 => ?_)
          go_simp
          obtain ⟨w12, hw12⟩ : ∃ w12, (wr.alloc (.cells #[.int .i64 (m : Nat), .int .i64 (m : Nat), .int .i64 (e : Nat)] 106)).drew = w12 := ⟨_, rfl⟩
          have hba : Below wr.heap.size wr w12 := by
            have h := new_one wr (.cells #[.int .i64 (m : Nat), .int .i64 (m : Nat), .int .i64 (e : Nat)] 106)
            rw [← hw12]; exact ⟨h.os, h.tape, h.output, h.size, h.block⟩
          have hbd : Below wr.drew.heap.size wr.drew w12 := ⟨hba.os, hba.tape, hba.output, hba.size, hba.block⟩
          have hxn : w12.heap[wr.heap.size]? = some (.cells #[.int .i64 (m : Nat), .int .i64 (m : Nat), .int .i64 (e : Nat)] 106 (0, 0)) := by rw [← hw12]; exact heap_alloc_new wr _
          have hs12 : w12.heap.size = wr.heap.size + 1 := by rw [← hw12]; show (wr.alloc _).heap.size = _; simp
          have HP12 := Lib.hid (HPAI.out.keep fun q hq _ => hba.block q hq)
          have HO12 := Lib.hid (HOI.out.trans (Oth.of_below (S := OwnP bp gc gs) hba) (fun _ _ h => h))
          obtain ⟨k0, k1, k2, k3⟩ := hHeld
          have hk6 := And.intro (cell_below hbd k0) (And.intro (cell_below hbd k1) (And.intro (cell_below hbd k2) (cell_below hbd k3)))
          try rw [hw12]
          refine hK9.out _ _ (fun _ => hk6) (fun hHeld => ?_)
          have hHeld := hHeld (by decide)
          clear hK9 K9 k0 k1 k2 k3 hk6 hw12 hbd
          refine goes_one (i := 7) (by kernel_rfl) rfl (fun K9 hK9 => ?_)
          rw [if_pos (by rfl)]
          refine wp_append_lies _ _ _ 81 rfl B 106 i0 (.agg #[.int .i64 0, .int .i64 0, .int .i64 0]) 3 24 Try.underlying81 HI.out.1 HI.out.2.1 HI.out.2.2.1 HI.out.2.2.2 rfl (by decide) (.slice (some ⟨gs, 0, none⟩) k cs) k (spansV k (upd sp c (b, b, m))) rfl HP12.out.rs ⟨wr.heap.size, 0, none⟩ 1 1 (spanV (m, m, e)) rfl rfl (news_in (cs := #[.int .i64 (m : Nat), .int .i64 (m : Nat), .int .i64 (e : Nat)]) hxn) (by simp [Value.oneCell', spanV]) (by omega) (by unfold maxLen; omega) (by omega) (by omega) (wr.heap.size + 1) hs12 ?_
          intro g9 cap2 w13 a2 a3 a4 a5
          have a3 : w12.grownBy w13 (some gs) := a3
          have hv9 : g9 = gs ∨ w12.heap.size ≤ g9 := by
            rcases a4 with a4 | a4
            · exact .inl (by cases a4; rfl)
            · exact .inr (by omega)
          have HPE := Lib.hid (HP12.out.append (y := (m, m, e)) a3 a2 hv9)
          have HOE := Lib.hid ((HO12.out.trans (Oth.of_gb (S := OwnP bp gc gs) a3 fun q e => by cases e; exact .inr (.inr rfl)) (fun _ _ h => h)).trans (Oth.of_set w13 (S := OwnP bp gc gs) ⟨bp, 3, none⟩ (.slice (some ⟨g9, 0, none⟩) (k + 1) cap2) (.inl rfl)) (fun _ _ h => h))
          have HG9 : Hid (g9 = gs ∨ w.heap.size ≤ g9) := Lib.hid (hv9.imp_right fun hq => by omega)
          have hfa := HPAI.out.far
          have hgsB := (HPAI.out.rs.lt gs rfl).1
          have hbpl := lt_of_block HP12.out.blk
          have hx13 : w13.heap[bp]? = w12.heap[bp]? := a3.block bp hbpl (by simp; omega)
          have hcl13 : w13.cell? ⟨bp, 3, none⟩ = some (.slice (some ⟨gs, 0, none⟩) k cs) := (cell_of_row w13 bp 3 _ _ _ (hx13.trans HP12.out.blk)).trans rfl
          have hfz13 : w13.frozen? ⟨bp, 3, none⟩ = false := frozen_row (j := 3) (hx13.trans HP12.out.blk)
          obtain ⟨k0, k1, k2, k3⟩ := hHeld
          have hk8 : ∀ {a : Addr} {v : Value}, w12.cell? a = some v → a.block ≠ gs → w13.cell? a = some v := fun hc hn => (World.cell?_of_block (a3.block _ (cell_lt hc) (by simp; omega))).trans hc
          refine hK9.out _ _ (fun _ => ⟨hcl13, hk8 k1 (by show bm ≠ gs; omega), hk8 k2 (by show bm ≠ gs; omega), hk8 k3 (by show bm ≠ gs; omega)⟩) (fun hHeld => ?_)
          have hHeld := hHeld (by decide)
          clear hK9 K9 k0 k1 k2 k3 hk8 a2 a3 a4 a5 hxn hba hv9 HP12 HO12
          refine goes_one (i := 8) (by kernel_rfl) rfl (fun K9 hK9 => ?_)
          go_simp
          refine hK9.out _ _ (fun _ => hHeld) (fun hHeld => ?_)
          have hHeld := hHeld (by decide)
          clear hK9 K9
          refine goes_one (i := 9) (by kernel_rfl) rfl (fun K9 hK9 => ?_)
          go_simp
          refine hK9.out _ _ (fun _ => hHeld) (fun hHeld => ?_)
          have hHeld := hHeld (by decide)
          clear hK9 K9
          refine goes_one (i := 10) (by kernel_rfl) rfl (fun K9 hK9 => ?_)
          go_simp
          refine hK9.out _ _ (fun h => absurd rfl h) (fun _ => ?_)
          clear hK9 K9 hHeld
          refine goes_done (by kernel_rfl) ?_ _
          go_end0
          have hll : e - m = i := by omega
          exact ⟨rfl, Lib.hid ⟨HOE.out, g9, cap2, HG9.out, .inr ⟨by rw [HKO.out.2]; show 0 < e - m; omega, by rw [HKO.out.1, HKO.out.2]; show PA _ bp B n (k + 1) go gp gc g9 co cp cc cap2 O P (clsUp O C k m (e - m)) _; rw [hll]; exact HPE.out⟩⟩⟩
end Go.Proofs.Ytamgldhnfcikbaa
