/- The reader: its block; fail, one. -/
import Derived.Test.YtmhjabodhgacnaaPB
set_option maxRecDepth 100000
namespace Go.Proofs.Ytmhjabodhgacnaa
open Go.RowKit

/-- An error's number. -/
def errN (e : Bool) : Int := if e then 110 else 0
theorem errN_no : errN false = 0 := rfl
theorem errN_yes : errN true = 110 := rfl
/-- What lies below a block. -/
def LowB (R : Nat) (v : Value) : Prop := ∀ k, v.ownBlock = some k → k < R
/-- A reader. -/
def RB (w : World) (R : Nat) (s : RS) : Prop := ∃ lv, w.heap[R]? = some (.cells #[lv, .int .i64 (errN s.2)] 65 (0, 0)) ∧ BytesAt w lv s.1 ∧ LowB R lv
theorem RB.lt {w : World} {R : Nat} {s : RS} (h : RB w R s) : R < w.heap.size := by
  obtain ⟨lv, h1, _⟩ := h
  exact lt_of_block h1
theorem BytesAt.low {w w' : World} {v : Value} {l : List Nat} {R : Nat} (h : BytesAt w v l) (hl : LowB R v) (hg : ∀ k, k < R → w'.heap[k]? = w.heap[k]?) : BytesAt w' v l := by
  obtain ⟨a, c, e, hc, h1⟩ := h
  refine ⟨a, c, e, hc, fun i hi => ?_⟩
  obtain ⟨b, o, e1, e2⟩ := h1 i hi
  refine ⟨b, o, e1, ?_⟩
  subst e1 e
  exact (World.cell?_of_block (w := w) (hg b (hl b rfl))).trans e2
theorem BytesAt.kept {w w' : World} {v : Value} {l : List Nat} {R : Nat} (h : BytesAt w v l) (hl : LowB R v) (hR : R < w.heap.size) (hg : w.grownBy w' (some R)) : BytesAt w' v l :=
  h.low hl fun k hk => hg.block k (by omega) (fun e => by have := Option.some.inj e; omega)
theorem low_nil (R : Nat) : LowB R (.slice none 0 0) := fun k hk => by cases hk
theorem low_sliced {R : Nat} {a : Option Addr} {l h m s n c : Nat} (hl : LowB R (.slice a n c)) : LowB R (sliced a l h m s) := by
  intro k hk
  unfold sliced at hk
  cases a with
  | none => split at hk <;> cases hk
  | some a =>
    refine hl k ?_
    rw [← hk]
    split
    · rfl
    · simp [Value.ownBlock, Addr.add]
      split <;> rfl
theorem rb_low {w w' : World} {R : Nat} {s : RS} (h : RB w R s) (hg : ∀ k, k < R + 1 → w'.heap[k]? = w.heap[k]?) : RB w' R s := by
  obtain ⟨lv, h1, h2, h3⟩ := h
  exact ⟨lv, (hg R (by omega)).trans h1, h2.low h3 (fun k hk => hg k (by omega)), h3⟩
theorem gb_refl (w : World) (x : Option Nat) : w.grownBy w x := ⟨rfl, rfl, rfl, Nat.le_refl _, fun _ _ _ => rfl⟩
theorem gb_set {w w' : World} {g : Nat} (h : w.grownBy w' (some g)) (i : Nat) (v : Value) : w.grownBy (w'.setCell ⟨g, i, none⟩ v) (some g) :=
  ⟨h.os, h.tape, h.output, by simpa using h.size, fun k hk hne => (Below.heap_setCell _ _ _ _ (fun e => hne (by rw [e]))).trans (h.block k hk hne)⟩
theorem gb_trans {a w w' : World} {row : Option Nat} (h : a.grownBy w row) (k : w.grownBy w' row) : a.grownBy w' row :=
  ⟨k.os.trans h.os, k.tape.trans h.tape, k.output.trans h.output, Nat.le_trans h.size k.size, fun i hi hne => (k.block i (Nat.lt_of_lt_of_le hi h.size) hne).trans (h.block i hi hne)⟩
theorem gb_below {w w' : World} {x : Option Nat} (h : Below w.heap.size w w') : w.grownBy w' x := ⟨h.os, h.tape, h.output, h.size, fun k hk _ => h.block k hk⟩
theorem rb_set0 {w : World} {R : Nat} {u0 u1 : Value} {t : TypeId} (h : w.heap[R]? = some (.cells #[u0, u1] t (0, 0))) (v : Value) : (w.setCell ⟨R, 0, none⟩ v).heap[R]? = some (.cells #[v, u1] t (0, 0)) := by rw [setCell_block h]; rfl
theorem rb_set1 {w : World} {R : Nat} {u0 u1 : Value} {t : TypeId} (h : w.heap[R]? = some (.cells #[u0, u1] t (0, 0))) (v : Value) : (w.setCell ⟨R, 1, none⟩ v).heap[R]? = some (.cells #[u0, v] t (0, 0)) := by rw [setCell_block h]; rfl
set_option maxHeartbeats 2000000 in
theorem fail_any (R : Nat) (s : RS) (w : World) (h : RB w R s) :
    Calls Try.prog 40 #[.pointer (some ⟨R, 0, none⟩)] w fun e w' => e = .returned (.tuple #[]) ∧ Hid (RB w' R ([], true)) ∧ Hid (w.grownBy w' (some R)) := by
  obtain ⟨lv, h1, h2, _⟩ := h
  have c0 : w.cell? ⟨R, 0, none⟩ = some lv := (cell_of_row w R 0 _ _ _ h1).trans rfl
  have c1 : w.cell? ⟨R, 1, none⟩ = some (.int .i64 (errN s.2)) := (cell_of_row w R 1 _ _ _ h1).trans rfl
  have f0 : w.frozen? ⟨R, 0, none⟩ = false := free_cells h1
  have f1 : w.frozen? ⟨R, 1, none⟩ = false := free_cells h1
  have H1 := Lib.hid h1
  clear h1 h2
  go_enter Try.func40, Try.ntmps40
  go_wp2
  go_end0
  exact ⟨rfl, Lib.hid ⟨.slice none 0 0, rb_set1 (rb_set0 H1.out _) _, BytesAt.nil _, low_nil R⟩, Lib.hid (gb_set (gb_set (gb_refl _ _) 0 _) 1 _)⟩
set_option maxHeartbeats 2000000 in
theorem one_any (R : Nat) (s : RS) (w : World) (h : RB w R s) (hl : s.1.length < 9223372036854775808) :
    Calls Try.prog 41 #[.pointer (some ⟨R, 0, none⟩)] w fun e w' => e = .returned (.int .u8 ((rdOne s).1 : Nat)) ∧ Hid (RB w' R (rdOne s).2) ∧ Hid (w.grownBy w' (some R)) := by
  have HR := Lib.hid h
  obtain ⟨lv, h1, h2, h3⟩ := h
  have hRl := lt_of_block h1
  have HRL := Lib.hid hRl
  have HL := Lib.hid h3
  clear h3 hRl
  obtain ⟨l, er⟩ := s
  have c0 : w.cell? ⟨R, 0, none⟩ = some lv := (cell_of_row w R 0 _ _ _ h1).trans rfl
  have f0 : w.frozen? ⟨R, 0, none⟩ = false := free_cells h1
  have H1 := Lib.hid h1
  have H2 := Lib.hid h2
  obtain ⟨a, c, rfl, hc⟩ := h2.len
  clear h1 h2
  have HF := Lib.hid (fail_any R (l, er) w HR.out)
  cases l with
  | nil =>
    have hn : (([] : List Nat).length) = 0 := rfl
    simp only [hn] at c0 H1 H2 hc hl
    clear hn
    go_enter Try.func41, Try.ntmps41
    go_wp2_with (go_at_call 40; (with_reducible refine HF.out.mono ?_); rintro e w5 ⟨rfl, hr5, hg5⟩)
    go_ret
    exact ⟨rfl, hr5, hg5⟩
  | cons x l =>
    simp only [List.length_cons] at c0 H1 hc hl
    have H3 : Hid (BytesAt w (.slice a (l.length + 1) c) (x :: l)) := H2
    obtain ⟨b, o, rfl, cx⟩ := H3.out.at (i := 0) (by simp)
    have cx : w.cell? ⟨b, o, none⟩ = some (.int .u8 (x : Nat)) := cx
    have HD := Lib.hid (H3.out.drop (k := 1) (by simp))
    have hs := slice_from (w := w) (a := some ⟨b, o, none⟩) (n := l.length + 1) (c := c) (k := 1) (by omega)
    obtain ⟨ua, un, uc, hu⟩ : ∃ ua un uc, sliced (some ⟨b, o, none⟩) 1 (l.length + 1) c 1 = .slice ua un uc := ⟨_, _, _, rfl⟩
    have HLS := Lib.hid (low_sliced (l := 1) (h := l.length + 1) (m := c) (s := 1) HL.out)
    rw [hu] at HD hs HLS
    have hs : (Instr.slice 25 (.slice (some ⟨b, o, none⟩) (l.length + 1) c) (some (.int .i64 1)) none none).run Try.prog w = .ok (.slice ua un uc) w := hs
    have hpos : ((l.length + 1 : Nat) : Int) ≠ 0 := by omega
    have hpb : (((l.length + 1 : Nat) : Int) == 0) = false := by rw [beq_eq_false_iff_ne]; exact hpos
    obtain ⟨n, hn⟩ : ∃ n, l.length + 1 = n := ⟨_, rfl⟩
    rw [hn] at c0 H1 hc hl hs hpb
    have hn0 : (0 : Int) < n := by omega
    clear hu H2 hpos
    go_enter Try.func41, Try.ntmps41
    go_wp2_with fail
    go_ret
    exact ⟨rfl, Lib.hid ⟨_, rb_set0 H1.out _, HD.out.kept HLS.out HRL.out (gb_set (gb_refl _ _) 0 _), HLS.out⟩, Lib.hid (gb_set (gb_refl _ _) 0 _)⟩
end Go.Proofs.Ytmhjabodhgacnaa
