/- Contract: arc. -/
import Derived.Test.YtmhjabodhgacnaaPE
set_option maxRecDepth 100000
namespace Go.Proofs.Ytmhjabodhgacnaa
open Go.RowKit

theorem rb_alloc {w : World} {R : Nat} {s : RS} (h : RB w R s) (o : Obj) : RB (w.alloc o) R s := rb_low h fun k hk => heap_alloc_old w o (by have := h.lt; omega)
theorem set3_go (w : World) (b : Nat) (u0 u1 u2 : Value) : w.grownBy (((w.setCell ⟨b, 0, none⟩ u0).setCell ⟨b, 1, none⟩ u1).setCell ⟨b, 2, none⟩ u2) (some b) := gb_set (gb_set (gb_set (gb_refl _ _) 0 _) 1 _) 2 _
theorem rb_other {w w' : World} {R b : Nat} {s : RS} (h : RB w R s) (hg : w.grownBy w' (some b)) (hb : R < b) : RB w' R s := rb_low h fun k hk => hg.block k (by have := h.lt; omega) (fun e => by have := Option.some.inj e; omega)
theorem gb_own {w wr w' : World} {R b : Nat} (h : w.grownBy wr (some R)) (hg : wr.grownBy w' (some b)) (hb : w.heap.size ≤ b) : w.grownBy w' (some R) :=
  ⟨hg.os.trans h.os, hg.tape.trans h.tape, hg.output.trans h.output, Nat.le_trans h.size hg.size, fun i hi hne => (hg.block i (Nat.lt_of_lt_of_le hi h.size) (fun e => by have := Option.some.inj e; omega)).trans (h.block i hi hne)⟩
theorem gb_old {w w' : World} {R n : Nat} {o : Obj} (hg : w.grownBy w' (some R)) (hn : w.heap[n]? = some o) (hne : n ≠ R) : w'.heap[n]? = some o :=
  (hg.block n (lt_of_block hn) (fun e => hne (Option.some.inj e))).trans hn
set_option maxHeartbeats 4000000 in
theorem arc_any (R : Nat) (s : RS) (w : World) (h : RB w R s) (hs : ROk s) :
    Calls Try.prog 36 #[.pointer (some ⟨R, 0, none⟩)] w fun e w' => e = .returned (.agg #[.int .u8 (rdArc s).1.lo, .int .u8 (rdArc s).1.hi, .int .i64 (rdArc s).1.dest]) ∧ Hid (RB w' R (rdArc s).2) ∧ Hid (w.grownBy w' (some R)) := by
  have hRl := h.lt
  obtain ⟨B, hB⟩ : ∃ B, w.heap.size = B := ⟨_, rfl⟩
  obtain ⟨w1, hw1⟩ : ∃ w1, w.alloc (.cells #[.int .u8 0, .int .u8 0, .int .i64 0] 69) = w1 := ⟨_, rfl⟩
  have HB1 : Hid (w1.heap[B]? = some (.cells #[.int .u8 0, .int .u8 0, .int .i64 0] 69 (0, 0))) := Lib.hid (by rw [← hw1, ← hB]; exact heap_alloc_new w _)
  have HG1 : Hid (w.grownBy w1 (some R)) := Lib.hid (by rw [← hw1]; exact gb_below (new_one w _))
  have HO1 := Lib.hid (one_any R s w1 (by rw [← hw1]; exact rb_alloc h _) hs.2)
  have HO2 := Lib.hid (fun W hW => one_any R (rdOne s).2 W hW (rdOne_ok s hs).2)
  have HU : Hid (∀ W, RB W R (rdOne (rdOne s).2).2 → Calls Try.prog 33 #[.pointer (some ⟨R, 0, none⟩), .int .i64 4096] W fun e w' => e = .returned (.int .i64 ((rdUp 4096 (rdOne (rdOne s).2).2).1 : Nat)) ∧ Hid (RB w' R (rdUp 4096 (rdOne (rdOne s).2).2).2) ∧ Hid (W.grownBy w' (some R))) := Lib.hid (fun W hW => upto_any 4096 R _ W hW (rdOne_ok _ (rdOne_ok s hs)) (by omega))
  have hBR : B ≠ R := by omega
  have HE := Lib.hid (show rdArc s = (⟨(rdOne s).1, (rdOne (rdOne s).2).1, ((rdUp 4096 (rdOne (rdOne s).2).2).1 : Nat)⟩, (rdUp 4096 (rdOne (rdOne s).2).2).2) from rfl)
  have HBS := Lib.hid hB
  rw [HE.out]
  simp only []
  have hRB : R < B := by omega
  clear h hs hRl HE
  generalize rdUp 4096 (rdOne (rdOne s).2).2 = q3 at *
  generalize rdOne (rdOne s).2 = q2 at *
  generalize rdOne s = q1 at *
  go_enter Try.func36, Try.ntmps36
  go_wp2_with (first
    | (go_at_call 41; (with_reducible refine HO1.out.mono ?_); rintro e w2 ⟨rfl, hr2, hg2⟩; have HO22 := Lib.hid (HO2.out w2 hr2.out))
    | (go_at_call 41; (with_reducible refine HO22.out.mono ?_); rintro e w3 ⟨rfl, hr3, hg3⟩; have HU3 := Lib.hid (HU.out w3 hr3.out))
    | (go_at_call 33; (with_reducible refine HU3.out.mono ?_); rintro e w4 ⟨rfl, hr4, hg4⟩; have HG4 : Hid (w1.grownBy w4 (some R)) := Lib.hid (gb_trans (gb_trans hg2.out hg3.out) hg4.out); have hb4 := gb_old HG4.out HB1.out hBR; have HB4 := Lib.hid hb4; have k0 := (cell_of_row w4 B 0 _ _ _ hb4).trans rfl; have k1 := (cell_of_row w4 B 1 _ _ _ hb4).trans rfl; have k2 := (cell_of_row w4 B 2 _ _ _ hb4).trans rfl; have f0 := free_cells (j := 0) hb4; have f1 := free_cells (j := 1) hb4; have f2 := free_cells (j := 2) hb4; clear hb4))
  refine bodyPost_ret (v := .agg #[.int .u8 q1.1, .int .u8 q2.1, .int .i64 q3.1]) (by simp [results, Try.results36, go_sem, k0, k1, k2]) rfl ⟨rfl, ?_, ?_⟩
  · exact Lib.hid (rb_other hr4.out (set3_go _ _ _ _ _) (by omega))
  · exact Lib.hid (gb_own (gb_trans HG1.out HG4.out) (set3_go _ _ _ _ _) (by rw [HBS.out]; omega))
end Go.Proofs.Ytmhjabodhgacnaa
