/- Texts that a proof rests on: Contracts of strings.Builder: copyCheck and WriteByte. | Contract of strings.Builder.WriteByte. | Contract of pattern.writeEscape. | Contract of pattern.writeEscape. | Contracts of pattern.writeByte at its two predicates, and of writeRange. | Contract of pattern.writeRange. | Contract of pattern.writeClass. -/
import Derived.Test.YtkpfpegjapddfaaGreatDoorK11
import Derived.Lib.FrozenHead2
import Derived.Lib.OthersKept
import Derived.Test.YtkpfpegjapddfaaGreatDoorK08
set_option maxRecDepth 20000
namespace Go.Proofs.YtkpfpegjapddfaaGreatDoor
open Go.RowKit

theorem builder_size : (Tryz.prog.info? 50).map (fun j => decide (j.size = 0)) = some false := by kernel_rfl
theorem builder_lies : liesAt Tryz.prog Tryz.prog.depth 50 (2 / Tryz.prog.cellsOf 50) 0 50 1 = true := by kernel_rfl
theorem copy_fresh (b : Nat) (w : World) (h0 : w.cell? ⟨b, 0, none⟩ = some (.pointer none)) (hsh : w.shape? b = some (50, 2)) (hfz : w.frozen? ⟨b, 0, none⟩ = false) :
    Calls Tryz.prog 57 #[.pointer (some ⟨b, 0, none⟩)] w fun e w' => e = .returned (.tuple #[]) ∧ w' = w.setCell ⟨b, 0, none⟩ (.pointer (some ⟨b, 0, none⟩)) := by
  obtain ⟨j, hj, hjs⟩ := Option.map_eq_some_iff.1 builder_size
  have hto := Lib.run_to_unsafe w ⟨b, 0, none⟩ Tryz.underlying47 Tryz.underlying104 hj (of_decide_eq_false hjs) hsh (Nat.zero_lt_succ 1)
  have hfrom := Lib.run_from_unsafe w ⟨b, 0, none⟩ Tryz.underlying104 Tryz.underlying47 hj hsh builder_lies
  have hno : ∀ (x : Value) (w : World), (callFunc 75 #[x]).run Tryz.prog w = .ok (.value x) w := fun x w => by
    rw [run_callFunc_extern Tryz.func75 (by kernel_rfl) (by kernel_rfl) (by kernel_rfl) (e := Extern.AbiNoEscape.same) (by kernel_rfl), Lib.run_noEscape]
    rfl
  have hne : ∀ w : World, (binOp .neq 47 (.pointer (some ⟨b, 0, none⟩)) (.pointer (some ⟨b, 0, none⟩))).run Tryz.prog w = .ok (.bool false) w := fun w => Lib.run_neq_ptr_same w ⟨b, 0, none⟩ Tryz.underlying47 hj
  go_enter Tryz.func57, Tryz.ntmps57
  go_wp2
  go_end0
  exact ⟨rfl, rfl⟩
theorem copy_used (b : Nat) (w : World) (h0 : w.cell? ⟨b, 0, none⟩ = some (.pointer (some ⟨b, 0, none⟩))) :
    Calls Tryz.prog 57 #[.pointer (some ⟨b, 0, none⟩)] w fun e w' => e = .returned (.tuple #[]) ∧ w' = w := by
  obtain ⟨j, hj, hjs⟩ := Option.map_eq_some_iff.1 builder_size
  have hne : ∀ w : World, (binOp .neq 47 (.pointer (some ⟨b, 0, none⟩)) (.pointer (some ⟨b, 0, none⟩))).run Tryz.prog w = .ok (.bool false) w := fun w => Lib.run_neq_ptr_same w ⟨b, 0, none⟩ Tryz.underlying47 hj
  go_enter Tryz.func57, Tryz.ntmps57
  go_wp2
  go_end0
  exact ⟨rfl, rfl⟩
theorem copy_any (B b : Nat) (bs : List Value) (w : World) (h : Lib.IsBuilderF 50 5 B b bs w) :
    Calls Tryz.prog 57 #[.pointer (some ⟨b, 0, none⟩)] w fun e w' => e = .returned (.tuple #[]) ∧ (Lib.BuilderAtF 50 5 B b (.pointer (some ⟨b, 0, none⟩)) bs w' ∧ Below B w w' ∧ Lib.OthersKept 5 (some b) w w') := by
  rcases h with h | h
  · refine (copy_fresh b w h.cell0 h.shape h.frozen0).mono ?_
    rintro e w' ⟨rfl, rfl⟩
    exact ⟨rfl, h.used _, (Below.refl B w).setCell (p := ⟨b, 0, none⟩) h.1 _, (Lib.OthersKept.refl _ _ w).setCell ⟨b, 0, none⟩ rfl _⟩
  · refine (copy_used b w h.cell0).mono ?_
    rintro e w' ⟨rfl, rfl⟩
    exact ⟨rfl, h, Below.refl B _, Lib.OthersKept.refl _ _ _⟩
end Go.Proofs.YtkpfpegjapddfaaGreatDoor
set_option maxRecDepth 20000
namespace Go.Proofs.YtkpfpegjapddfaaGreatDoor
open Go.RowKit

theorem infoB8 : (Tryz.prog.info? 5).map (fun i => (i.zero, i.size, i.bytes)) = some (some (.int .u8 0), 1, 1) := by kernel_rfl
set_option maxHeartbeats 2000000 in
theorem writeByte_any (B b : Nat) (bs : List Value) (c : Int) (w : World) (h : Lib.IsBuilderF 50 5 B b bs w) (hlen : bs.length + 1 ≤ 99999) (hBw : B ≤ w.heap.size) :
    Calls Tryz.prog 31 #[.pointer (some ⟨b, 0, none⟩), .int .u8 c] w fun e w' => e = .returned .nilIface ∧ (Lib.BuilderAtF 50 5 B b (.pointer (some ⟨b, 0, none⟩)) (bs ++ [.int .u8 c]) w' ∧ Below B w w' ∧ Lib.OthersKept 5 (some b) w w') := by
  obtain ⟨i0, hi, hz0, hz1, hz2⟩ := info_parts infoB8
  go_enter Tryz.func31, Tryz.ntmps31
  go_wp2_with (go_at_call 57; refine (copy_any B b bs _ h).mono ?_)
  rintro e w1 ⟨rfl, h1, hb1, hk1⟩
  obtain ⟨hB, v, hbk, hown, hne⟩ := h1
  have c0 : w1.cell? ⟨b, 0, none⟩ = some (.pointer (some ⟨b, 0, none⟩)) := by rw [Lib.cell_of_heap hbk]; rfl
  have c1 : w1.cell? ⟨b, 1, none⟩ = some v := by rw [Lib.cell_of_heap hbk]; rfl
  have hlt := lt_of_block hbk
  go_wp2_with (at_builtin; refine wpList_append_ownF _ rfl _ _ 48 rfl B 5 i0 (.int .u8 0) 1 1 Tryz.underlying48 hi hz0 hz1 hz2 rfl (by decide) _ _ _ rfl (hown.alloc _) ⟨w1.heap.size, 0, none⟩ 1 1 [.int .u8 c] rfl rfl ?_ ?_ ?_ ?_ ?_ ?_)
  · intro j u hj
    rcases j with _ | j
    · simp at hj
      subst hj
      simp [Addr.add]
    · simp at hj
  · intro u hu
    simp at hu
    subst hu
    rfl
  · unfold maxLen
    omega
  · omega
  · have := hb1.size
    simp
    omega
  intro v2 w2 hown2 hgrow _
  have hb2 : w2.heap[b]? = some (.cells #[.pointer (some ⟨b, 0, none⟩), v] 50 (0, 0)) := by
    rw [hgrow.block b (by simp; omega) (fun e => hne e.symm), Lib.alloc_old w1 _ b hlt]
    exact hbk
  have d0 : w2.cell? ⟨b, 0, none⟩ = some (.pointer (some ⟨b, 0, none⟩)) := by rw [Lib.cell_of_heap hb2]; rfl
  have d1 : w2.cell? ⟨b, 1, none⟩ = some v := by rw [Lib.cell_of_heap hb2]; rfl
  have f1 : w2.frozen? ⟨b, 1, none⟩ = false := Lib.frozen_of_heap hb2 1
  obtain ⟨g, cap, rfl⟩ : ∃ g cap, v2 = .slice (some ⟨g, 0, none⟩) (bs.length + 1) cap := by
    rcases hown2.2 with ⟨_, h0⟩ | ⟨g, cap, cur, fz, hv, _⟩
    · omega
    · exact ⟨g, cap, hv⟩
  go_wp2
  go_ret
  have hs1 := hb1.size
  refine ⟨rfl, Lib.BuilderAtF.put hB hb2 (bs' := bs ++ [.int .u8 c]) (by simpa using hown2) (by decide), ?_, ((hk1.alloc _).grown hgrow (Lib.ownsRowF_kind (hown.alloc _))).setCell ⟨b, 1, none⟩ rfl _⟩
  exact ((hb1.alloc (by omega) _).grown hgrow (by simp; omega) (fun k hk => (hown.lt k hk).1)).setCell (p := ⟨b, 1, none⟩) hB _
end Go.Proofs.YtkpfpegjapddfaaGreatDoor
set_option maxRecDepth 20000
namespace Go.Proofs.YtkpfpegjapddfaaGreatDoor
open Go.RowKit

/-- A builder of one's own that holds the bytes l. -/
def Bld (w : World) (B b : Nat) (l : List UInt8) : Prop := Lib.IsBuilderF 50 5 B b (Lib.byteCells l) w
/-- What a writer leaves. -/
def Wrote (w : World) (B b : Nat) (l : List UInt8) (e : Ending) (w' : World) : Prop := e = .returned (.tuple #[]) ∧ Bld w' B b l ∧ Below B w w' ∧ Lib.OthersKept 5 (some b) w w'
/-- A byte's escape. -/
def escOut (b : UInt8) : List UInt8 := if b = 10 then [92, 110] else if b = 9 then [92, 116] else if b = 13 then [92, 114] else if escB b.toNat = true then [92, b] else [92, 120, hexL.getD (b.toNat / 16) 0, hexL.getD (b.toNat % 16) 0]
theorem byteCells_snoc (l : List UInt8) (c : UInt8) : Lib.byteCells l ++ [.int .u8 (c.toNat : Int)] = Lib.byteCells (l ++ [c]) := by
  simp [Lib.byteCells]
theorem write_byte (B b : Nat) (l : List UInt8) (c : UInt8) (n : Int) (hc : n = (c.toNat : Int)) (w : World) (h : Bld w B b l) (hlen : l.length + 1 ≤ 99999) (hBw : B ≤ w.heap.size) :
    Calls Tryz.prog 31 #[.pointer (some ⟨b, 0, none⟩), .int .u8 n] w fun e w' => e = .returned .nilIface ∧ (Bld w' B b (l ++ [c]) ∧ Below B w w' ∧ Lib.OthersKept 5 (some b) w w' ∧ B ≤ w'.heap.size) := by
  subst hc
  refine (writeByte_any B b (Lib.byteCells l) _ w h (by simpa [Lib.byteCells] using hlen) hBw).mono ?_
  rintro e w' ⟨rfl, h1, h2, h3⟩
  rw [byteCells_snoc] at h1
  exact ⟨rfl, .inr h1, h2, h3, Nat.le_trans hBw h2.size⟩
end Go.Proofs.YtkpfpegjapddfaaGreatDoor
set_option maxRecDepth 20000
namespace Go.Proofs.YtkpfpegjapddfaaGreatDoor
open Go.RowKit

theorem hexAt (i : Nat) (hi : i < 16) (h : i < (ByteArray.mk #[48, 49, 50, 51, 52, 53, 54, 55, 56, 57, 97, 98, 99, 100, 101, 102]).size) : (ByteArray.mk #[48, 49, 50, 51, 52, 53, 54, 55, 56, 57, 97, 98, 99, 100, 101, 102])[i] = hexL.getD i 0 := by
  have : ∀ i : Fin 16, (ByteArray.mk #[48, 49, 50, 51, 52, 53, 54, 55, 56, 57, 97, 98, 99, 100, 101, 102])[i.1]'(by have := i.2; show i.1 < 16; exact this) = hexL.getD i.1 0 := by decide
  exact this ⟨i, hi⟩
theorem Wrote.two {w w1 w2 : World} {B b : Nat} {l : List UInt8} {e : Ending} (he : e = .returned (.tuple #[])) (h : Bld w2 B b l) (b1 : Below B w w1) (b2 : Below B w1 w2) (k1 : Lib.OthersKept 5 (some b) w w1) (k2 : Lib.OthersKept 5 (some b) w1 w2) : Wrote w B b l e w2 :=
  ⟨he, h, b1.trans b2, k1.trans k2⟩
set_option maxHeartbeats 2000000 in
theorem writeEscape_any (B b : Nat) (l : List UInt8) (c : UInt8) (w : World) (h : Bld w B b l) (hlen : l.length + 4 ≤ 99999) (hBw : B ≤ w.heap.size) :
    Calls Tryz.prog 52 #[.pointer (some ⟨b, 0, none⟩), .int .u8 (c.toNat : Int)] w fun e w' => Wrote w B b (l ++ escOut c) e w' := by
  by_cases c1 : c = 10
  · subst c1
    have hx : Lib.indexByte [10, 9, 13] 10 = 0 := by decide
    go_enter Tryz.func52, Tryz.ntmps52
    go_wp2_with (first | (go_at_call 31; with_reducible refine (write_byte B b l 92 92 (by decide) _ h (by omega) hBw).mono ?_; rintro e w1 ⟨rfl, h1, b1, k1, z1⟩) | (go_at_call 54; refine (indexByte_any _ _ _).mono ?_; rintro e w' ⟨rfl, rfl⟩) | (go_at_call 31; with_reducible refine (write_byte B b _ 110 _ ?hh _ h1 (by simp; omega) z1).mono ?_; (case hh => first | decide | rfl | simp); rintro e w2 ⟨rfl, h2, b2, k2, z2⟩))
    first | go_end0 | refine bodyPost_ret (results_none rfl _ _ _) rfl ?_
    exact Wrote.two rfl (by simpa [escOut] using h2) b1 b2 k1 k2
  by_cases c2 : c = 9
  · subst c2
    have hx : Lib.indexByte [10, 9, 13] 9 = 1 := by decide
    go_enter Tryz.func52, Tryz.ntmps52
    go_wp2_with (first | (go_at_call 31; with_reducible refine (write_byte B b l 92 92 (by decide) _ h (by omega) hBw).mono ?_; rintro e w1 ⟨rfl, h1, b1, k1, z1⟩) | (go_at_call 54; refine (indexByte_any _ _ _).mono ?_; rintro e w' ⟨rfl, rfl⟩) | (go_at_call 31; with_reducible refine (write_byte B b _ 116 _ ?hh _ h1 (by simp; omega) z1).mono ?_; (case hh => first | decide | rfl | simp); rintro e w2 ⟨rfl, h2, b2, k2, z2⟩))
    first | go_end0 | refine bodyPost_ret (results_none rfl _ _ _) rfl ?_
    exact Wrote.two rfl (by simpa [escOut] using h2) b1 b2 k1 k2
  by_cases c3 : c = 13
  · subst c3
    have hx : Lib.indexByte [10, 9, 13] 13 = 2 := by decide
    go_enter Tryz.func52, Tryz.ntmps52
    go_wp2_with (first | (go_at_call 31; with_reducible refine (write_byte B b l 92 92 (by decide) _ h (by omega) hBw).mono ?_; rintro e w1 ⟨rfl, h1, b1, k1, z1⟩) | (go_at_call 54; refine (indexByte_any _ _ _).mono ?_; rintro e w' ⟨rfl, rfl⟩) | (go_at_call 31; with_reducible refine (write_byte B b _ 114 _ ?hh _ h1 (by simp; omega) z1).mono ?_; (case hh => first | decide | rfl | simp); rintro e w2 ⟨rfl, h2, b2, k2, z2⟩))
    first | go_end0 | refine bodyPost_ret (results_none rfl _ _ _) rfl ?_
    exact Wrote.two rfl (by simpa [escOut] using h2) b1 b2 k1 k2
  have hx : Lib.indexByte [10, 9, 13] c = -1 := by simp [Lib.indexByte, Ne.symm c1, Ne.symm c2, Ne.symm c3]
  by_cases c4 : escB c.toNat = true
  · go_enter Tryz.func52, Tryz.ntmps52
    go_wp2_with (first | (go_at_call 31; with_reducible refine (write_byte B b l 92 92 (by decide) _ h (by omega) hBw).mono ?_; rintro e w1 ⟨rfl, h1, b1, k1, z1⟩) | (go_at_call 54; refine (indexByte_any _ _ _).mono ?_; rintro e w' ⟨rfl, rfl⟩) | (go_at_call 72; refine (escapable_any _ _).mono ?_; rintro e w' ⟨rfl, rfl⟩) | (go_at_call 31; with_reducible refine (write_byte B b _ c (c.toNat : Int) rfl _ h1 (by simp; omega) z1).mono ?_; rintro e w2 ⟨rfl, h2, b2, k2, z2⟩))
    first | go_end0 | refine bodyPost_ret (results_none rfl _ _ _) rfl ?_
    exact Wrote.two rfl (by simpa [escOut, c1, c2, c3, c4] using h2) b1 b2 k1 k2
  · rw [Bool.not_eq_true] at c4
    go_enter Tryz.func52, Tryz.ntmps52
    have hc := c.toNat_lt
    have g0 : 0 ≤ (c.toNat : Int) / 16 := by omega
    have g1 : (c.toNat : Int) / 16 < 16 := by omega
    have g2 : c.toNat / 16 < 16 := by omega
    have g3 : c.toNat % 16 < 16 := by omega
    go_wp2_with (first | (go_at_call 31; with_reducible refine (write_byte B b l 92 92 (by decide) _ h (by omega) hBw).mono ?_; rintro e w1 ⟨rfl, h1, b1, k1, z1⟩) | (go_at_call 54; refine (indexByte_any _ _ _).mono ?_; rintro e w' ⟨rfl, rfl⟩) | (go_at_call 72; refine (escapable_any _ _).mono ?_; rintro e w' ⟨rfl, rfl⟩) | (go_at_call 31; with_reducible refine (write_byte B b _ 120 120 (by decide) _ h1 (by simp; omega) z1).mono ?_; rintro e w2 ⟨rfl, h2, b2, k2, z2⟩) | (go_at_call 31; refine (write_byte B b _ (hexL.getD (c.toNat / 16) 0) _ (by rw [hexAt _ g2]) _ h2 (by simp; omega) z2).mono ?_; rintro e w3 ⟨rfl, h3, b3, k3, z3⟩) | (go_at_call 31; refine (write_byte B b _ (hexL.getD (c.toNat % 16) 0) _ (by rw [hexAt _ g3]) _ h3 (by simp; omega) z3).mono ?_; rintro e w4 ⟨rfl, h4, b4, k4, z4⟩))
    first | go_end0 | refine bodyPost_ret (results_none rfl _ _ _) rfl ?_
    exact ⟨rfl, by simpa [escOut, c1, c2, c3, c4] using h4, ((b1.trans b2).trans b3).trans b4, ((k1.trans k2).trans k3).trans k4⟩
end Go.Proofs.YtkpfpegjapddfaaGreatDoor
set_option maxRecDepth 20000
namespace Go.Proofs.YtkpfpegjapddfaaGreatDoor
open Go.RowKit

/-- A byte as it is printed. -/
def byteOut (ok : Bool) (c : UInt8) : List UInt8 := if ok = true then [c] else escOut c
theorem byteOut_len (ok : Bool) (c : UInt8) : (byteOut ok c).length ≤ 4 := by
  unfold byteOut escOut
  repeat' split
  all_goals simp
set_option maxHeartbeats 1000000 in
theorem writeByte_plain (B b : Nat) (l : List UInt8) (c : UInt8) (w : World) (h : Bld w B b l) (hlen : l.length + 4 ≤ 99999) (hBw : B ≤ w.heap.size) :
    Calls Tryz.prog 28 #[.pointer (some ⟨b, 0, none⟩), .int .u8 (c.toNat : Int), .func (.func 29) #[] #[]] w fun e w' => Wrote w B b (l ++ byteOut (plainB c.toNat) c) e w' := by
  by_cases hp : plainB c.toNat = true
  · go_enter Tryz.func28, Tryz.ntmps28
    go_wp2_with (first | (go_at_call 29; refine (plain_any _ _).mono ?_; rintro e w' ⟨rfl, rfl⟩) | (go_at_call 31; with_reducible refine (write_byte B b l c (c.toNat : Int) rfl _ h (by omega) hBw).mono ?_; rintro e w1 ⟨rfl, h1, b1, k1, z1⟩))
    first | go_end0 | refine bodyPost_ret (results_none rfl _ _ _) rfl ?_
    exact ⟨rfl, by simpa [byteOut, hp] using h1, b1, k1⟩
  · rw [Bool.not_eq_true] at hp
    go_enter Tryz.func28, Tryz.ntmps28
    go_wp2_with (first | (go_at_call 29; refine (plain_any _ _).mono ?_; rintro e w' ⟨rfl, rfl⟩) | (go_at_call 52; refine (writeEscape_any B b l c _ h hlen hBw).mono ?_; rintro e w1 ⟨rfl, h1, b1, k1⟩))
    first | go_end0 | refine bodyPost_ret (results_none rfl _ _ _) rfl ?_
    exact ⟨rfl, by simpa [byteOut, hp] using h1, b1, k1⟩
set_option maxHeartbeats 1000000 in
theorem writeByte_shown (B b : Nat) (l : List UInt8) (c : UInt8) (w : World) (h : Bld w B b l) (hlen : l.length + 4 ≤ 99999) (hBw : B ≤ w.heap.size) :
    Calls Tryz.prog 28 #[.pointer (some ⟨b, 0, none⟩), .int .u8 (c.toNat : Int), .func (.func 77) #[] #[]] w fun e w' => Wrote w B b (l ++ byteOut (shownC c.toNat) c) e w' := by
  by_cases hp : shownC c.toNat = true
  · go_enter Tryz.func28, Tryz.ntmps28
    go_wp2_with (first | (go_at_call 77; refine (shownInClass_any _ _).mono ?_; rintro e w' ⟨rfl, rfl⟩) | (go_at_call 31; with_reducible refine (write_byte B b l c (c.toNat : Int) rfl _ h (by omega) hBw).mono ?_; rintro e w1 ⟨rfl, h1, b1, k1, z1⟩))
    first | go_end0 | refine bodyPost_ret (results_none rfl _ _ _) rfl ?_
    exact ⟨rfl, by simpa [byteOut, hp] using h1, b1, k1⟩
  · rw [Bool.not_eq_true] at hp
    go_enter Tryz.func28, Tryz.ntmps28
    go_wp2_with (first | (go_at_call 77; refine (shownInClass_any _ _).mono ?_; rintro e w' ⟨rfl, rfl⟩) | (go_at_call 52; refine (writeEscape_any B b l c _ h hlen hBw).mono ?_; rintro e w1 ⟨rfl, h1, b1, k1⟩))
    first | go_end0 | refine bodyPost_ret (results_none rfl _ _ _) rfl ?_
    exact ⟨rfl, by simpa [byteOut, hp] using h1, b1, k1⟩
end Go.Proofs.YtkpfpegjapddfaaGreatDoor
set_option maxRecDepth 20000
namespace Go.Proofs.YtkpfpegjapddfaaGreatDoor
open Go.RowKit

/-- A run as it is printed. -/
def rangeOut (lo hi : UInt8) : List UInt8 := byteOut (shownC lo.toNat) lo ++ ((if lo.toNat + 1 < hi.toNat then [45] else []) ++ (if lo.toNat < hi.toNat then byteOut (shownC hi.toNat) hi else []))
set_option maxHeartbeats 2000000 in
theorem writeRange_any (B b : Nat) (l : List UInt8) (lo hi : UInt8) (hle : lo.toNat ≤ hi.toNat) (w : World) (h : Bld w B b l) (hlen : l.length + 9 ≤ 99999) (hBw : B ≤ w.heap.size) :
    Calls Tryz.prog 59 #[.pointer (some ⟨b, 0, none⟩), .int .u8 (lo.toNat : Int), .int .u8 (hi.toNat : Int)] w fun e w' => Wrote w B b (l ++ rangeOut lo hi) e w' := by
  have hlo := lo.toNat_lt
  have hhi := hi.toNat_lt
  have hl1 := byteOut_len (shownC lo.toNat) lo
  by_cases q1 : lo.toNat + 1 < hi.toNat
  · have q2 : lo.toNat < hi.toNat := by omega
    go_enter Tryz.func59, Tryz.ntmps59
    go_wp2_with (first | (go_at_call 28; (with_reducible refine (writeByte_shown B b l lo _ h (by omega) hBw).mono ?_); rintro e w1 ⟨rfl, h1, b1, k1⟩; have z1 := Nat.le_trans hBw b1.size) | (go_at_call 31; (with_reducible refine (write_byte B b _ 45 45 (by decide) _ h1 (by simp; omega) z1).mono ?_); rintro e w2 ⟨rfl, h2, b2, k2, z2⟩) | (go_at_call 28; (with_reducible refine (writeByte_shown B b _ hi _ h2 (by simp; omega) z2).mono ?_); rintro e w3 ⟨rfl, h3, b3, k3⟩))
    first | go_end0 | refine bodyPost_ret (results_none rfl _ _ _) rfl ?_
    exact ⟨rfl, by simpa [rangeOut, q1, q2] using h3, (b1.trans b2).trans b3, (k1.trans k2).trans k3⟩
  · by_cases q2 : lo.toNat < hi.toNat
    · go_enter Tryz.func59, Tryz.ntmps59
      go_wp2_with (first | (go_at_call 28; (with_reducible refine (writeByte_shown B b l lo _ h (by omega) hBw).mono ?_); rintro e w1 ⟨rfl, h1, b1, k1⟩; have z1 := Nat.le_trans hBw b1.size) | (go_at_call 28; (with_reducible refine (writeByte_shown B b _ hi _ h1 (by simp; omega) z1).mono ?_); rintro e w3 ⟨rfl, h3, b3, k3⟩))
      first | go_end0 | refine bodyPost_ret (results_none rfl _ _ _) rfl ?_
      exact ⟨rfl, by simpa [rangeOut, q1, q2] using h3, b1.trans b3, k1.trans k3⟩
    · go_enter Tryz.func59, Tryz.ntmps59
      go_wp2_with (first | (go_at_call 28; (with_reducible refine (writeByte_shown B b l lo _ h (by omega) hBw).mono ?_); rintro e w1 ⟨rfl, h1, b1, k1⟩; have z1 := Nat.le_trans hBw b1.size))
      first | go_end0 | refine bodyPost_ret (results_none rfl _ _ _) rfl ?_
      exact ⟨rfl, by simpa [rangeOut, q1, q2] using h1, b1, k1⟩
end Go.Proofs.YtkpfpegjapddfaaGreatDoor
set_option maxRecDepth 20000
namespace Go.Proofs.YtkpfpegjapddfaaGreatDoor
open Go.RowKit

theorem Bld.lt {w : World} {B b : Nat} {l : List UInt8} (h : Bld w B b l) : b < w.heap.size := h.elim (fun x => x.lt) (fun x => x.lt)
theorem bldAt_below {T e : TypeId} {B b : Nat} {p : Value} {bs : List Value} {w w' : World} (h : Lib.BuilderAtF T e B b p bs w) (hb : Below w.heap.size w w') : Lib.BuilderAtF T e B b p bs w' := by
  have hlt := h.lt
  obtain ⟨hB, v, h1, h2, h3⟩ := h
  refine ⟨hB, v, (hb.block b hlt).trans h1, ⟨h2.1, ?_⟩, h3⟩
  rcases h2.2 with hn | ⟨g, cap, cur, fz, hv, hg, hgb, rest⟩
  · exact .inl hn
  · exact .inr ⟨g, cap, cur, fz, hv, hg, (hb.block g (lt_of_block hgb)).trans hgb, rest⟩
theorem Bld.below {w w' : World} {B b : Nat} {l : List UInt8} (h : Bld w B b l) (hb : Below w.heap.size w w') : Bld w' B b l :=
  h.elim (fun x => .inl (bldAt_below x hb)) (fun x => .inr (bldAt_below x hb))
theorem kept_of_below {e : TypeId} {b : Option Nat} {w w' : World} (hb : Below w.heap.size w w') : Lib.OthersKept e b w w' := fun k _ hk _ _ => (hb.block k (lt_of_block hk)).trans hk
theorem SetAt.kept {w w' : World} {b c : Nat} {s : BitVec 256} (h : SetAt w c s) (hk : Lib.OthersKept 5 (some b) w w') (hne : c ≠ b) : SetAt w' c s :=
  hk c _ h (by simpa using hne) (by intro cs fz hh; simp at hh)
theorem Tab.low {w w' : World} {B : Nat} (h : Tab w) (hb : Below B w w') (hB : 0 < B) : Tab w' :=
  ⟨Nat.lt_of_lt_of_le h.1 hb.size, fun j hj => by rw [hb.cell (p := ⟨_, j, none⟩) hB]; exact h.2 j hj⟩
theorem writeRange_nat (B b : Nat) (l : List UInt8) (lo hi : Nat) (hle : lo ≤ hi) (hhi : hi < 256) (w : World) (h : Bld w B b l) (hlen : l.length + 9 ≤ 99999) (hBw : B ≤ w.heap.size) :
    Calls Tryz.prog 59 #[.pointer (some ⟨b, 0, none⟩), .int .u8 (lo : Int), .int .u8 (hi : Int)] w fun e w' => Wrote w B b (l ++ rangeOut (UInt8.ofNat lo) (UInt8.ofNat hi)) e w' := by
  have e1 : (UInt8.ofNat lo).toNat = lo := by simp; omega
  have e2 : (UInt8.ofNat hi).toNat = hi := by simp; omega
  have := writeRange_any B b l (UInt8.ofNat lo) (UInt8.ofNat hi) (by omega) w h hlen hBw
  rw [e1, e2] at this
  exact this
/-- Runs as they are printed. -/
def rowsOut (l : List (Nat × Nat)) : List UInt8 := l.flatMap (fun q => rangeOut (UInt8.ofNat q.1) (UInt8.ofNat q.2))
theorem rowsOut_snoc (l : List (Nat × Nat)) (q : Nat × Nat) : rowsOut (l ++ [q]) = rowsOut l ++ rangeOut (UInt8.ofNat q.1) (UInt8.ofNat q.2) := by simp [rowsOut]
theorem rowsOut_take (l : List (Nat × Nat)) (k : Nat) (h : k < l.length) : rowsOut (l.take (k + 1)) = rowsOut (l.take k) ++ rangeOut (UInt8.ofNat l[k].1) (UInt8.ofNat l[k].2) := by
  rw [List.take_succ_eq_append_getElem h, rowsOut_snoc]
theorem rangeOut_len (lo hi : UInt8) : (rangeOut lo hi).length ≤ 9 := by
  have h1 := byteOut_len (shownC lo.toNat) lo
  have h2 := byteOut_len (shownC hi.toNat) hi
  unfold rangeOut
  repeat' split
  all_goals simp
  all_goals omega
theorem rowsOut_len : ∀ (l : List (Nat × Nat)), (rowsOut l).length ≤ 9 * l.length
  | [] => by simp [rowsOut]
  | q :: l => by
    have h1 := rowsOut_len l
    have h2 := rangeOut_len (UInt8.ofNat q.1) (UInt8.ofNat q.2)
    have e : rowsOut (q :: l) = rangeOut (UInt8.ofNat q.1) (UInt8.ofNat q.2) ++ rowsOut l := rfl
    rw [e, List.length_append, List.length_cons]
    omega
/-- A set in brackets. -/
def clsOut (s : BitVec 256) : List UInt8 := if 128 < cnt s 256 then [91, 94] ++ (rowsOut (runs (~~~s) 0) ++ [93]) else [91] ++ (rowsOut (runs s 0) ++ [93])
theorem clsOut_len (s : BitVec 256) : (clsOut s).length ≤ 2307 := by
  have h1 := rowsOut_len (runs s 0)
  have h2 := rowsOut_len (runs (~~~s) 0)
  have h3 := runs_length s 256 0 (by omega)
  have h4 := runs_length (~~~s) 256 0 (by omega)
  unfold clsOut
  split <;> simp <;> omega
theorem runs_le (s : BitVec 256) : ∀ (m p : Nat), 256 - p ≤ m → ∀ q ∈ runs s p, q.1 ≤ q.2 ∧ q.2 < 256 := by
  intro m
  induction m with
  | zero =>
    intro p hp q hq
    rw [runs_end (by have := fst_out (s := s) (b := p) (by omega); omega)] at hq
    simp at hq
  | succ m ih =>
    intro p hp q hq
    rcases Nat.lt_or_ge (fst s p) 256 with hl | hl
    · rw [runs_more hl] at hq
      have hp1 : p ≤ fst s p := by
        rcases fst_cases s p with ⟨h1, _⟩ | ⟨h1, _⟩
        · exact h1
        · omega
      have hbit : s.getLsbD (fst s p) = true := by
        rcases fst_cases s p with ⟨_, _, h1, _⟩ | ⟨h1, _⟩
        · exact h1
        · omega
      have hgt : fst s p < fst (~~~s) (fst s p) := by
        rcases fst_cases (~~~s) (fst s p) with ⟨h1, h2, h3, _⟩ | ⟨h1, _⟩
        · rcases Nat.lt_or_ge (fst s p) (fst (~~~s) (fst s p)) with h | h
          · exact h
          · have he : fst (~~~s) (fst s p) = fst s p := by omega
            rw [he] at h3
            simp [hbit] at h3
        · omega
      have hle := fst_le (~~~s) (fst s p)
      rcases List.mem_cons.1 hq with rfl | hq
      · exact ⟨by show fst s p ≤ fst (~~~s) (fst s p) - 1; omega, by show fst (~~~s) (fst s p) - 1 < 256; omega⟩
      · exact ih _ (by omega) q hq
    · rw [runs_end hl] at hq
      simp at hq
/-- Where the pairs of a row lie. -/
def RowOf (w : World) (b : Nat) (ad : Option Addr) (l : List (Nat × Nat)) : Prop := ∀ k (_ : k < l.length), ∃ g cs fz, ad = some ⟨g, 0, none⟩ ∧ g ≠ b ∧ w.heap[g]? = some (.cells cs 91 fz) ∧ cs[k * 2]? = some (.int .u8 l[k].1) ∧ cs[k * 2 + 1]? = some (.int .u8 l[k].2)
theorem flat_at2 (l : List (Nat × Nat)) : ∀ i (_ : i < l.length), (flat l)[i * 2]? = some (.int .u8 l[i].1) ∧ (flat l)[i * 2 + 1]? = some (.int .u8 l[i].2) := by
  induction l with
  | nil => intro i hi; simp at hi
  | cons q l ih =>
    intro i hi
    have e : flat (q :: l) = [Value.int .u8 q.1, Value.int .u8 q.2] ++ flat l := rfl
    cases i with
    | zero => rw [e]; simp
    | succ i =>
      have := ih i (by simpa using hi)
      have e1 : (i + 1) * 2 = i * 2 + 2 := by omega
      rw [e, e1]
      simpa using this
theorem row_of_own {w : World} {base b : Nat} {v : Value} {l : List (Nat × Nat)} (hb : b < base) (h : w.ownsRow base 91 2 v l.length (flat l)) : ∃ ad cap, v = .slice ad l.length cap ∧ RowOf w b ad l := by
  rcases h.2 with ⟨rfl, h0⟩ | ⟨g, cap, cur, rfl, hg, hgb, h1, h2, h3, h4⟩
  · exact ⟨none, 0, by rw [h0], fun k hk => by omega⟩
  · refine ⟨_, cap, rfl, fun k hk => ⟨g, cur, _, rfl, by omega, hgb, ?_⟩⟩
    have f := flat_at2 l k hk
    rw [← h4] at f
    have hk2 : k * 2 + 1 < l.length * 2 := by omega
    simp only [List.getElem?_take] at f
    rw [if_pos (by omega), if_pos (by omega)] at f
    simpa using f
theorem RowOf.kept {w w' : World} {b : Nat} {ad : Option Addr} {l : List (Nat × Nat)} (h : RowOf w b ad l) (hk : Lib.OthersKept 5 (some b) w w') : RowOf w' b ad l := fun k hl => by
  obtain ⟨g, cs, fz, h1, h2, h3, h4⟩ := h k hl
  exact ⟨g, cs, fz, h1, h2, hk g _ h3 (by simpa using h2) (by intro cs fz hh; simp at hh), h4⟩
theorem pair_cells {w : World} {g k : Nat} {cs : Array Value} {fz : Nat × Nat} {x y : Value} (h : w.heap[g]? = some (.cells cs 91 fz)) (hx : cs[k * 2]? = some x) (hy : cs[k * 2 + 1]? = some y) : w.cell? ⟨g, k * 2, none⟩ = some x ∧ w.cell? ⟨g, k * 2 + 1, none⟩ = some y := by
  simp [World.cell?, h, hx, hy]
theorem bldAt_set4 {T : TypeId} {B b n : Nat} {p : Value} {bs : List Value} {w : World} {s : BitVec 256} (h : Lib.BuilderAtF T 5 B b p bs w) (hx : SetAt w n s) (hne : n ≠ b) (u0 u1 u2 u3 : Value) :
    Lib.BuilderAtF T 5 B b p bs ((((w.setCell ⟨n, 0, none⟩ u0).setCell ⟨n, 1, none⟩ u1).setCell ⟨n, 2, none⟩ u2).setCell ⟨n, 3, none⟩ u3) := by
  have hk : ∀ k, k ≠ n → ((((w.setCell ⟨n, 0, none⟩ u0).setCell ⟨n, 1, none⟩ u1).setCell ⟨n, 2, none⟩ u2).setCell ⟨n, 3, none⟩ u3).heap[k]? = w.heap[k]? := fun k hk => by
    rw [Below.heap_setCell _ _ _ _ hk, Below.heap_setCell _ _ _ _ hk, Below.heap_setCell _ _ _ _ hk, Below.heap_setCell _ _ _ _ hk]
  obtain ⟨hB, v, h1, h2, h3⟩ := h
  refine ⟨hB, v, (hk b (fun e => hne e.symm)).trans h1, ⟨h2.1, ?_⟩, h3⟩
  rcases h2.2 with hn | ⟨g, cap, cur, fz, hv, hg, hgb, rest⟩
  · exact .inl hn
  · refine .inr ⟨g, cap, cur, fz, hv, hg, (hk g ?_).trans hgb, rest⟩
    rintro rfl
    unfold SetAt at hx
    rw [hx] at hgb
    simp at hgb
theorem bld_set4 {B b n : Nat} {l : List UInt8} {w : World} {s : BitVec 256} (h : Bld w B b l) (hx : SetAt w n s) (hne : n ≠ b) (u0 u1 u2 u3 : Value) :
    Bld ((((w.setCell ⟨n, 0, none⟩ u0).setCell ⟨n, 1, none⟩ u1).setCell ⟨n, 2, none⟩ u2).setCell ⟨n, 3, none⟩ u3) B b l :=
  h.elim (fun x => .inl (bldAt_set4 x hx hne u0 u1 u2 u3)) (fun x => .inr (bldAt_set4 x hx hne u0 u1 u2 u3))
theorem kept_set4 {e : TypeId} {b : Option Nat} {w w4 w5 : World} {n : Nat} (h : Lib.OthersKept e b w w4) (hn : w.heap.size ≤ n) (u0 u1 u2 u3 : Value) (hb : Below ((((w4.setCell ⟨n, 0, none⟩ u0).setCell ⟨n, 1, none⟩ u1).setCell ⟨n, 2, none⟩ u2).setCell ⟨n, 3, none⟩ u3).heap.size ((((w4.setCell ⟨n, 0, none⟩ u0).setCell ⟨n, 1, none⟩ u1).setCell ⟨n, 2, none⟩ u2).setCell ⟨n, 3, none⟩ u3) w5) : Lib.OthersKept e b w w5 := by
  intro k o hk hb1 ho
  have hlt := lt_of_block hk
  have hne : k ≠ n := by omega
  have h1 := h k o hk hb1 ho
  have h2 : ((((w4.setCell ⟨n, 0, none⟩ u0).setCell ⟨n, 1, none⟩ u1).setCell ⟨n, 2, none⟩ u2).setCell ⟨n, 3, none⟩ u3).heap[k]? = some o := by
    rw [Below.heap_setCell _ _ _ _ hne, Below.heap_setCell _ _ _ _ hne, Below.heap_setCell _ _ _ _ hne, Below.heap_setCell _ _ _ _ hne]
    exact h1
  exact (hb.block k (lt_of_block h2)).trans h2
set_option maxHeartbeats 4000000 in
theorem writeClass_any (B b : Nat) (l : List UInt8) (s : BitVec 256) (w : World) (h : Bld w B b l) (hlen : l.length + 2400 ≤ 99999) (hBw : B ≤ w.heap.size) (hT : Tab w) (hTB : 0 < B) :
    Calls Tryz.prog 32 #[.pointer (some ⟨b, 0, none⟩), (.agg #[.int .u64 (wd (s) 0), .int .u64 (wd (s) 1), .int .u64 (wd (s) 2), .int .u64 (wd (s) 3)])] w fun e w' => Wrote w B b (l ++ clsOut s) e w' := by
  have hlt := h.lt
  have hx0 := SetAt.new w s
  have b0 : Below w.heap.size w (w.alloc (.cells #[.int .u64 (wd s 0), .int .u64 (wd s 1), .int .u64 (wd s 2), .int .u64 (wd s 3)] 24)) := (Below.refl _ _).alloc (Nat.le_refl _) _
  have hne : w.heap.size ≠ b := by omega
  go_enter Tryz.func32, Tryz.ntmps32
  go_wp2_with fail
  obtain ⟨w0, hw0⟩ : ∃ z, w.alloc (.cells #[.int .u64 (wd s 0), .int .u64 (wd s 1), .int .u64 (wd s 2), .int .u64 (wd s 3)] 24) = z := ⟨_, rfl⟩
  rw [hw0] at hx0 b0 ⊢
  clear hw0
  have h0 := h.below b0
  have z0 : B ≤ w0.heap.size := Nat.le_trans hBw b0.size
  have k0 : Lib.OthersKept 5 (some b) w w0 := kept_of_below b0
  have b0' := b0.mono hBw
  generalize hn : w.heap.size = n at *
  by_cases q : 128 < cnt s 256
  · have hout : clsOut s = [91, 94] ++ (rowsOut (runs (~~~s) 0) ++ [93]) := by unfold clsOut; rw [if_pos q]
    go_wp2_with (first
      | (go_at_call 31; (with_reducible refine (write_byte B b l 91 91 (by decide) _ h0 (by omega) z0).mono ?_); rintro e w1 ⟨rfl, h1, b1, k1, z1⟩; have x1 := hx0.kept k1 hne; obtain ⟨c0, c1, c2, c3⟩ := x1.cells)
      | (go_at_call 26; (with_reducible refine (count_any s _).mono ?_); rintro e w2 ⟨rfl, hb2⟩; have h2 := h1.below hb2; have z2 := Nat.le_trans z1 hb2.size; have x2 := x1.grown hb2)
      | (go_at_call 31; (with_reducible refine (write_byte B b _ 94 94 (by decide) _ h2 (by simp; omega) z2).mono ?_); rintro e w3 ⟨rfl, h3, b3, k3, z3⟩; have x3 := x2.kept k3 hne; obtain ⟨d0, d1, d2, d3⟩ := x3.cells)
      | (go_at_call 55; (with_reducible refine (not_any s _).mono ?_); rintro e w4 ⟨rfl, hb4⟩; have x4 := x3.grown hb4; obtain ⟨f0, f1, f2, f3⟩ := x4.free; obtain ⟨g0, g1, g2, g3⟩ := x4.cells; have hT3 := (((hT.low b0' hTB).low b1 hTB).low (hb2.mono z1) hTB).low b3 hTB; have bc4 := below_set4 (hb4.mono z3) hBw (.int .u64 (wd (~~~s) 0)) (.int .u64 (wd (~~~s) 1)) (.int .u64 (wd (~~~s) 2)) (.int .u64 (wd (~~~s) 3)))
      | (go_at_call 58; (with_reducible refine (ranges_any (~~~s) _ (hT3.low bc4 hTB)).mono ?_); rintro e w5 ⟨v, rfl, hrow, hb5⟩; obtain ⟨ad, cap, rfl, hro⟩ := row_of_own (b := b) (by have hz := (((b0'.trans b1).trans (hb2.mono z1)).trans (b3.trans bc4)).size; omega) hrow))
    have h4 := h3.below hb4
    have hcw := bld_set4 h4 x4 hne (.int .u64 (wd (~~~s) 0)) (.int .u64 (wd (~~~s) 1)) (.int .u64 (wd (~~~s) 2)) (.int .u64 (wd (~~~s) 3))
    have h5 := hcw.below hb5
    have B5 : Below B w w5 := (((b0'.trans b1).trans (hb2.mono z1)).trans (b3.trans bc4)).trans (hb5.mono (Nat.le_trans z3 bc4.size))
    have K5 : Lib.OthersKept 5 (some b) w w5 := kept_set4 ((((k0.trans k1).trans (kept_of_below hb2)).trans k3).trans (kept_of_below hb4)) (Nat.le_of_eq hn) _ _ _ _ hb5
    have z5 : B ≤ w5.heap.size := Nat.le_trans hBw (by rw [← hn]; exact B5.size)
    have hlr := runs_length (~~~s) 256 0 (by omega)
    have hle := runs_le (~~~s) 256 0 (by omega)
    generalize hL : runs (~~~s) 0 = L at *
    clear hrow
    go_loopw [18] (fun i wr => ∃ k : Nat, k ≤ L.length ∧ i = .int .i64 k ∧ Bld wr B b (l ++ [91] ++ [94] ++ rowsOut (L.take k)) ∧ Below B w5 wr ∧ Lib.OthersKept 5 (some b) w5 wr) (fun i _ => L.length - (intOf i).toNat)
    case atStart => exact ⟨0, by omega, rfl, by simpa [rowsOut] using h5, Below.refl _ _, Lib.OthersKept.refl _ _ _⟩
    case round =>
      obtain ⟨k, hk, rfl, hbr, hwr, hkr⟩ := hrel
      by_cases hlt2 : k < L.length
      · obtain ⟨g, cs, fz, rfl, hgb, hgc, hc0, hc1⟩ := (hro.kept hkr) k hlt2
        obtain ⟨p0, p1⟩ := pair_cells hgc hc0 hc1
        obtain ⟨q0, q1⟩ := hle L[k] (List.getElem_mem hlt2)
        have hR := rowsOut_take L k hlt2
        have hlen2 := rowsOut_len (L.take k)
        rw [List.length_take] at hlen2
        have zr := Nat.le_trans z5 hwr.size
        generalize L[k].1 = x at *
        generalize L[k].2 = y at *
        have hb6 : Below wr.heap.size wr (wr.alloc (.cells #[.int .u8 (x : Int), .int .u8 (y : Int)] 91)) := (Below.refl _ _).alloc (Nat.le_refl _) _
        have hb7 := hbr.below hb6
        go_wp2_with (go_at_call 59; (with_reducible refine (writeRange_nat B b _ x y q0 q1 _ hb7 (by simp; omega) (Nat.le_trans zr hb6.size)).mono ?_); rintro e w6 ⟨rfl, h6, b6, k6⟩)
        go_roundw
        case rel => exact ⟨k + 1, by omega, num_succ k, by rw [hR, ← List.append_assoc]; exact h6, (hwr.trans (hb6.mono zr)).trans b6, (hkr.trans (kept_of_below hb6)).trans k6⟩
        case measure => simp [intOf]; omega
      · obtain rfl : k = L.length := by omega
        rw [List.take_length] at hbr
        have hlen2 := rowsOut_len L
        have zr := Nat.le_trans z5 hwr.size
        go_wp2_with (go_at_call 31; (with_reducible refine (write_byte B b _ 93 93 (by decide) _ hbr (by simp; omega) zr).mono ?_); rintro e w6 ⟨rfl, h6, b6, k6, z6⟩)
        first | go_end0 | refine bodyPost_ret (results_none rfl _ _ _) rfl ?_
        exact ⟨rfl, by rw [hout]; simpa [List.append_assoc] using h6, (B5.trans hwr).trans b6, (K5.trans hkr).trans k6⟩
  · have hout : clsOut s = [91] ++ (rowsOut (runs s 0) ++ [93]) := by unfold clsOut; rw [if_neg q]
    go_wp2_with (first
      | (go_at_call 31; (with_reducible refine (write_byte B b l 91 91 (by decide) _ h0 (by omega) z0).mono ?_); rintro e w1 ⟨rfl, h1, b1, k1, z1⟩; have x1 := hx0.kept k1 hne; obtain ⟨c0, c1, c2, c3⟩ := x1.cells)
      | (go_at_call 26; (with_reducible refine (count_any s _).mono ?_); rintro e w2 ⟨rfl, hb2⟩; have h2 := h1.below hb2; have z2 := Nat.le_trans z1 hb2.size; have x2 := x1.grown hb2; obtain ⟨d0, d1, d2, d3⟩ := x2.cells; have hT2 := (hT.low b0' hTB).low b1 hTB)
      | (go_at_call 58; (with_reducible refine (ranges_any s _ (hT2.low (hb2.mono z1) hTB)).mono ?_); rintro e w5 ⟨v, rfl, hrow, hb5⟩; obtain ⟨ad, cap, rfl, hro⟩ := row_of_own (b := b) (by have hz := ((b0'.trans b1).trans (hb2.mono z1)).size; omega) hrow))
    have h5 := h2.below hb5
    have B5 : Below B w w5 := ((b0'.trans b1).trans (hb2.mono z1)).trans (hb5.mono z2)
    have K5 : Lib.OthersKept 5 (some b) w w5 := ((k0.trans k1).trans (kept_of_below hb2)).trans (kept_of_below hb5)
    have z5 : B ≤ w5.heap.size := Nat.le_trans z2 hb5.size
    have hlr := runs_length s 256 0 (by omega)
    have hle := runs_le s 256 0 (by omega)
    generalize hL : runs s 0 = L at *
    clear hrow
    go_loopw [18] (fun i wr => ∃ k : Nat, k ≤ L.length ∧ i = .int .i64 k ∧ Bld wr B b (l ++ [91] ++ rowsOut (L.take k)) ∧ Below B w5 wr ∧ Lib.OthersKept 5 (some b) w5 wr) (fun i _ => L.length - (intOf i).toNat)
    case atStart => exact ⟨0, by omega, rfl, by simpa [rowsOut] using h5, Below.refl _ _, Lib.OthersKept.refl _ _ _⟩
    case round =>
      obtain ⟨k, hk, rfl, hbr, hwr, hkr⟩ := hrel
      by_cases hlt2 : k < L.length
      · obtain ⟨g, cs, fz, rfl, hgb, hgc, hc0, hc1⟩ := (hro.kept hkr) k hlt2
        obtain ⟨p0, p1⟩ := pair_cells hgc hc0 hc1
        obtain ⟨q0, q1⟩ := hle L[k] (List.getElem_mem hlt2)
        have hR := rowsOut_take L k hlt2
        have hlen2 := rowsOut_len (L.take k)
        rw [List.length_take] at hlen2
        have zr := Nat.le_trans z5 hwr.size
        generalize L[k].1 = x at *
        generalize L[k].2 = y at *
        have hb6 : Below wr.heap.size wr (wr.alloc (.cells #[.int .u8 (x : Int), .int .u8 (y : Int)] 91)) := (Below.refl _ _).alloc (Nat.le_refl _) _
        have hb7 := hbr.below hb6
        go_wp2_with (go_at_call 59; (with_reducible refine (writeRange_nat B b _ x y q0 q1 _ hb7 (by simp; omega) (Nat.le_trans zr hb6.size)).mono ?_); rintro e w6 ⟨rfl, h6, b6, k6⟩)
        go_roundw
        case rel => exact ⟨k + 1, by omega, num_succ k, by rw [hR, ← List.append_assoc]; exact h6, (hwr.trans (hb6.mono zr)).trans b6, (hkr.trans (kept_of_below hb6)).trans k6⟩
        case measure => simp [intOf]; omega
      · obtain rfl : k = L.length := by omega
        rw [List.take_length] at hbr
        have hlen2 := rowsOut_len L
        have zr := Nat.le_trans z5 hwr.size
        go_wp2_with (go_at_call 31; (with_reducible refine (write_byte B b _ 93 93 (by decide) _ hbr (by simp; omega) zr).mono ?_); rintro e w6 ⟨rfl, h6, b6, k6, z6⟩)
        first | go_end0 | refine bodyPost_ret (results_none rfl _ _ _) rfl ?_
        exact ⟨rfl, by rw [hout]; simpa [List.append_assoc] using h6, (B5.trans hwr).trans b6, (K5.trans hkr).trans k6⟩
end Go.Proofs.YtkpfpegjapddfaaGreatDoor
