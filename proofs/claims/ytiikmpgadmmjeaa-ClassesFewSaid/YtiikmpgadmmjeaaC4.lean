/- The contract of classes.columnOf. -/
import Derived.Test.YtiikmpgadmmjeaaC2
set_option maxRecDepth 100000
namespace Go.Proofs.Ytiikmpgadmmjeaa
open Go.RowKit
attribute [local go_sem] zero_cols

/-- A byte's piece. -/
def colS (m : List Sta) (start : Int) (b k : Nat) : Nat → Int := fun i => if i = 0 then (k : Int) else nextS m (start + (i : Int) - 1) b
theorem cols_result {w : World} {b : Nat} {f : Nat → Int} (h : CBlk w b f) {tmps : Array Value} (ht : tmps.getD 8 undef = .pointer (some ⟨b, 0, none⟩)) : (results Try.f39 tmps).run Try.prog w = .ok (.agg (Cols f)) w :=
  results_cell_row (fn := Try.f39) rfl tmps w b _ _ _ _ ht h Try.underlying70 rfl (by rw [infoCols, cols_size])
theorem build_col (k : Int) (w : World) : (Instr.build 70 #[(0, .int .i64 k)]).run Try.prog w = .ok (.agg (Cols fun i => if i = 0 then k else 0)) w := by kernel_rfl
theorem wpList_build_col {ops : Array Oper} {rest : List Oper} {op : Oper} {a : Act} {w : World} {Q : Exit → Act → World → Prop} (k : Int) (g : Nat → Int) (hg : (fun i : Nat => if i = 0 then k else 0) = g) (hgd : op.guard = none) (x : Operand) (ho : op.op = .build 70 #[(0, x)])
    (hx : a.eval x = .int .i64 k) (h : wpList Try.prog ops Q rest (a.put op.dst (.agg (Cols g))) w) : wpList Try.prog ops Q (op :: rest) a w :=
  wpList_plain hgd fun _ hK => by
    subst hg
    unfold Oper.wp execOp
    simp only [ho, List.map_toArray, List.map_cons, List.map_nil, hx, Sem.run_bind, Sem.run_pure, Result.andThen_ok, build_col]
    exact hK _ _ h
theorem wpList_alloc_col {ops : Array Oper} {rest : List Oper} {op : Oper} {a : Act} {w : World} {Q : Exit → Act → World → Prop} (I : Array Value) (hI : Cols (fun _ => 0) = I) (hgd : op.guard = none) (ho : op.op = .alloc 70) (n : Nat) (hn : w.heap.size = n)
    (h : wpList Try.prog ops Q rest (a.put op.dst (.pointer (some ⟨n, 0, none⟩))) (w.alloc (.cells I 70))) : wpList Try.prog ops Q (op :: rest) a w :=
  wpList_plain hgd fun _ hK => by
    subst hI hn
    have e : (Instr.alloc 70 true (.tuple #[])).run Try.prog w = .ok (.pointer (some ⟨w.heap.size, 0, none⟩)) (w.alloc (.cells (Cols fun _ => 0) 70)) := by kernel_rfl
    unfold Oper.wp execOp
    simp only [ho, Sem.run_bind, Sem.run_pure, Result.andThen_ok, e]
    exact hK _ _ h
set_option maxHeartbeats 4000000 in
theorem column_any (v : Value) (m : List Sta) (start : Nat) (b k : Nat) (w : World) (hv : MachAt w v m) (hl : ∀ s ∈ m, s.arcs.length < 9223372036854775808) (hm : Mays m) (hs : start < 4611686018427387904) (hk : k < 256) :
    Calls Try.prog 39 #[v, .int .i64 start, .int .u8 b, .int .u8 k] w fun e w' => e = .returned (.agg (Cols (colS m start b k))) ∧ Below w.heap.size w w' := by
  obtain ⟨av, cv, rfl⟩ := hv.len
  have HNX := Lib.hid (fun (W : World) (hb : Below w.heap.size w W) (s : Int) => dnext_any _ m s b W (hv.below hb) hl hm)
  clear hv hl hm
  obtain ⟨B0, hB⟩ : ∃ B, w.heap.size = B := ⟨_, rfl⟩
  have HB := Lib.hid hB
  obtain ⟨I1, hI1⟩ : ∃ I1, Cols (fun _ => 0) = I1 := ⟨_, rfl⟩
  obtain ⟨w1, hw1⟩ : ∃ w1, (w.alloc (.cells I1 70)).alloc (.cells I1 70) = w1 := ⟨_, rfl⟩
  have hsz : w1.heap.size = B0 + 2 := by rw [← hw1]; simp [hB]
  have HA0 : Hid (CBlk w1 B0 fun _ => 0) := Lib.hid (by
    rw [← hw1]; unfold CBlk
    rw [heap_alloc_old _ _ (by simp; omega), hI1, ← hB]; exact heap_alloc_new w _)
  have HA1 : Hid (CBlk w1 (B0 + 1) fun _ => 0) := Lib.hid (by
    rw [← hw1]; unfold CBlk
    rw [hI1]
    have := heap_alloc_new (w.alloc (.cells I1 70)) (.cells I1 70)
    rw [World.size_alloc, hB] at this; exact this)
  have HBW : Hid (Below B0 w w1) := Lib.hid (by
    rw [← hw1, ← hB]
    exact ((Below.refl _ w).alloc (Nat.le_refl _) _).alloc (by simp) _)
  rw [hB]
  have HI1 := Lib.hid hI1
  have HA2 : Hid (CBlk ((w.alloc (.cells I1 70)).alloc (.cells I1 70)) (B0 + 1) fun _ => 0) := Lib.hid (by rw [hw1]; exact HA1.out)
  obtain ⟨g0, hg0⟩ : ∃ g0, (fun i : Nat => if i = 0 then (k : Int) else 0) = g0 := ⟨_, rfl⟩
  have HG0 := Lib.hid hg0
  clear hg0
  clear hI1
  go_enter Try.func39, Try.ntmps39
  go_wp2_with (first | (refine wpList_alloc_col I1 HI1.out rfl rfl B0 HB.out ?_) | (refine wpList_alloc_col I1 HI1.out rfl rfl (B0 + 1) ((World.size_alloc _ _).trans (congrArg (· + 1) HB.out)) ?_) | (refine wpList_build_col (k : Int) g0 HG0.out rfl _ rfl rfl ?_) | (refine wpList_store_cols (B0 + 1) (fun _ => 0) g0 HA2.out rfl _ _ rfl rfl rfl ?_) | (refine wpList_store_cols (B0 + 1) (fun _ => 0) g0 HA1.out rfl _ _ rfl rfl rfl ?_))
  clear hw1
  obtain ⟨w2, hw2⟩ : ∃ w2, w1.setRow (B0 + 1) (Cols g0) = w2 := ⟨_, rfl⟩
  have HA1' : Hid (CBlk w2 (B0 + 1) fun i => if i = 0 then (k : Int) else 0) := Lib.hid (by rw [← hw2, HG0.out]; exact HA1.out.setRow)
  have HA0' : Hid (CBlk w2 B0 fun _ => 0) := Lib.hid (by
    rw [← hw2]
    have := (below_setRow (Below.refl (B0 + 1) w1) (Nat.le_refl (B0 + 1)) (Cols g0)).block B0 (by omega)
    exact this.trans HA0.out)
  have HBW' : Hid (Below B0 w w2) := Lib.hid (by rw [← hw2]; exact below_setRow HBW.out (by omega) _)
  have hsz' : B0 + 2 ≤ w2.heap.size := by
    rw [← hw2]
    have := (below_setRow (Below.refl (B0 + 1) w1) (Nat.le_refl (B0 + 1)) (Cols g0)).size
    omega
  rw [hw2]
  clear hw2 hsz HA0 HA1 HBW HI1
  have HCOL := Lib.hid (show ∀ i : Nat, colS m start b k (i + 1) = nextS m ((start : Int) + i) b from fun i => by
    unfold colS
    rw [if_neg (by omega)]
    congr 1
    omega)
  go_loopw [10, 14] (fun _ z wr => ∃ i : Nat, z = .int .i64 i ∧ i ≤ 63 ∧ B0 + 2 ≤ wr.heap.size ∧ Hid (CBlk wr B0 fun _ => 0) ∧ Hid (CBlk wr (B0 + 1) fun j => if j ≤ i then colS m start b k j else 0) ∧ Hid (Below B0 w wr)) (fun _ z _ => 63 - (intOf z).toNat)
  case atStart => exact ⟨0, rfl, Nat.zero_le _, hsz', HA0', Lib.hid (HA1'.out.congr fun i _ => by
    by_cases h : i = 0
    · subst h; rfl
    · rw [if_neg h, if_neg (by omega)]), HBW'⟩
  case round =>
    clear HA0' HA1' HBW' hsz'
    obtain ⟨i, rfl, hi, hsz, HA0, HA1, HBW⟩ := hrel
    by_cases hlt : i < 63
    · have hd : decide ((i : Int) < 63) = true := decide_eq_true (by omega)
      have hi63 : (i : Int) + 1 < 64 := by omega
      have hww : IntKind.i64.wrap ((start : Int) + i) = (start : Int) + i := by rw [IntKind.wrap_i64]; omega
      have HCK := Lib.hid (HNX.out wr (by rw [HB.out]; exact HBW.out) ((start : Int) + i))
      have hb2 : B0 ≠ B0 + 1 := by omega
      have HCI := Lib.hid (HCOL.out i)
      generalize nextS m ((start : Int) + i) b = x at *
      go_wp2_with (go_at_call 31; (with_reducible refine HCK.out.mono ?_); rintro e w5 ⟨rfl, hb5⟩; have HB5 := Lib.hid hb5; have HA5 := Lib.hid (HA1.out.below HB5.out); have hfz : w5.frozen? ⟨B0 + 1, i + 1, none⟩ = false := HA5.out.frozen; have c1 := HA5.out.cell (show i + 1 < 64 by omega); clear hb5)
      have hs5 := HB5.out.size
      exact ⟨⟨i + 1, rfl, hlt, by simp; omega, Lib.hid ((HA0.out.below HB5.out).other (a := ⟨B0 + 1, i + 1, none⟩) hb2 _), Lib.hid (HA5.out.set (k := i + 1) (by rw [if_pos (Nat.le_refl _)]; exact HCI.out) (fun j _ hne => by
        by_cases h : j ≤ i
        · rw [if_pos h, if_pos (by omega)]
        · rw [if_neg h, if_neg (by omega)])), Lib.hid ((HBW.out.trans (HB5.out.mono (by omega))).setCell (by show B0 ≤ B0 + 1; omega) _)⟩, by simp only [intOf]; omega⟩
    · obtain rfl : i = 63 := by omega
      have hd : decide (((63 : Nat) : Int) < 63) = false := by simp
      replace HA1 := Lib.hid (HA1.out.congr (g := colS m start b k) fun i hi => by rw [if_pos (by omega)])
      go_wp2_with (first | (refine wpList_load_cols (B0 + 1) (colS m start b k) HA1.out rfl _ rfl rfl ?_) | (refine wpList_store_cols B0 (fun _ => 0) (colS m start b k) HA0.out rfl _ _ rfl rfl rfl ?_))
      have HRES := Lib.hid (HA0.out.setRow (g := colS m start b k))
      have HRB := Lib.hid (below_setRow HBW.out (Nat.le_refl B0) (Cols (colS m start b k)))
      generalize wr.setRow B0 (Cols (colS m start b k)) = w9 at *
      exact bodyPost_ret (v := .agg (Cols (colS m start b k))) (cols_result HRES.out rfl) rfl ⟨rfl, HRB.out⟩
end Go.Proofs.Ytiikmpgadmmjeaa
