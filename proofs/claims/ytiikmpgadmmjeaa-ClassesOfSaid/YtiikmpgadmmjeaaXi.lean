/- Contracts: dfa.runs, and the iterator that it hands back. -/
import Derived.Test.YtiikmpgadmmjeaaXh
import Derived.RangeFuncNested
import Derived.RangeFuncBound
import Derived.RangeFuncCalls
import Derived.RangeFuncLeaves
import Derived.RangeFuncBox
import Derived.Shelf.Abstract
import Derived.Shelf.RegionOpen
import Derived.OwnWalkIn
import Derived.TacticsInMore
import Derived.LoopNIn
import Derived.LoopIn
import Derived.Maps.AppendAt
import Derived.RegionIn
import Derived.Sort.QuietIn
set_option maxRecDepth 100000
namespace Go.Proofs.Ytiikmpgadmmjeaa
open Go.RowKit Go.Shelf
attribute [local go_sem] Oper.semAt_some

set_option maxHeartbeats 1000000 in
theorem aruns_any (f : Nat → Int) (w : World) :
    Calls Try.prog 42 #[.agg (Ints f)] w fun e w' => e = .returned (.func (.func 43) #[] #[.pointer (some ⟨w.heap.size, 0, none⟩)]) ∧ w' = w.alloc (.cells (Ints f) 64) := by
  obtain ⟨I9, hI9⟩ : ∃ I9, Ints f = I9 := ⟨_, rfl⟩
  rw [hI9]
  go_enter Try.func42, Try.ntmps42
  go_wp2
  go_ret
  exact ⟨rfl, rfl⟩
theorem below_drewN (w : World) : ∀ n, Below w.heap.size w (w.drewN n)
  | 0 => Below.refl _ _
  | n + 1 => (below_drewN w n).drew
/-- Below n₀ all is as it was, and each block of 256 numbers holds them. -/
def KeepInts (n₀ : Nat) (W W' : World) : Prop := Below n₀ W W' ∧ ∀ (k : Nat) (c : Array Value) (fz : Nat × Nat), W.heap[k]? = some (Obj.cells c 64 fz) → W'.heap[k]? = some (Obj.cells c 64 fz)
theorem KeepInts.ints {n₀ : Nat} {W W' : World} (h : KeepInts n₀ W W') {b : Nat} {f : Nat → Int} (hs : IBlk W b f) : IBlk W' b f := h.2 b _ _ hs
theorem KeepInts.trans {n₀ : Nat} {A B C : World} (h : KeepInts n₀ A B) (k : KeepInts n₀ B C) : KeepInts n₀ A C := ⟨h.1.trans k.1, fun i c fz hi => k.2 i c fz (h.2 i c fz hi)⟩
theorem keepInts_b {n₀ : Nat} {w : World} (hn : n₀ ≤ w.heap.size) (W : World) (l : Nat) (o o' : Obj) (hl : w.heap.size ≤ l) (h : W.heap[l]? = some o) (h1 : o.isCells = false) (h2 : o.isWalk = false) : KeepInts n₀ W (W.putObj l o') :=
  ⟨belowK_b hn W l o o' hl h h1 h2, fun k c fz hk => by
    by_cases e : k = l
    · subst e; rw [hk] at h; cases h; cases h1
    · rw [World.putObj_heap_other e]; exact hk⟩
theorem grown_of_below {W W' : World} (h : Below W.heap.size W W') : W.grownBy W' none := ⟨h.os, h.tape, h.output, h.size, fun k hk _ => h.block k hk⟩
set_option linter.unusedSimpArgs false in
set_option maxHeartbeats 4000000 in
theorem aruns1_in (n : Nat) (hn : 1 ≤ n) (l Bs n₀ : Nat) (f : Nat → Int) (J Jx : List Arc3 → World → Prop)
    (hY : ∀ pre x W, J pre W → pre.length < 256 → YieldAt Fence.wide (n - 1) Try.prog l #[arcV x] W fun e W' =>
      (e = .returned (.bool true) ∧ J (pre ++ [x]) W' ∧ KeepInts n₀ W W') ∨ (e = .returned (.bool false) ∧ Jx (pre ++ [x]) W'))
    (W : World) (hA : AbidesFrom W.heap.size J) (hs : IBlk W Bs f) (h0 : J [] W) :
    CallsIn Fence.wide n Try.prog 43 #[.func (.yield l) #[] #[], .pointer (some ⟨Bs, 0, none⟩)] W fun e W' => (∃ v, e = .returned v) ∧
      ((∃ ys, upA ys = arcsS f ∧ J ys W') ∨ (∃ pre, Jx pre W')) := by
  have HY := Lib.hid hY
  have HA := Lib.hid hA
  have HR0 := Lib.hid (Runs.start f)
  have HS0 := Lib.hid hs
  have HJ0 := Lib.hid h0
  clear hY hA hs h0
  refine callsIn_of_wp Try.func43 rfl trivial ?_ rfl
  simp only [Try.ntmps43, List.size_toArray, List.length_cons, List.length_nil, Nat.reduceAdd, Nat.reduceSub, Array.replicate_succ, Array.replicate_zero, List.push_toArray, List.append_toArray, List.nil_append, List.cons_append]
  gi_wp2
  gi_loopw [3, 5] (fun a z wr => ∃ (lo b : Nat) (pre : List Arc3), a = .int .i64 lo ∧ z = .int .i64 b ∧ b ≤ 256 ∧ Hid (Runs f pre lo b) ∧ Hid (IBlk wr Bs f) ∧ W.heap.size ≤ wr.heap.size ∧ Hid (J pre wr)) (fun _ z _ => 256 - (intOf z).toNat)
  case atStart => exact ⟨0, 0, [], rfl, rfl, Nat.zero_le _, HR0, HS0, Nat.le_refl _, HJ0⟩
  case round =>
    clear HR0 HS0 HJ0
    obtain ⟨lo, b, pre, rfl, rfl, hb, HR, HS, hsz, HJ⟩ := hrel
    by_cases hlt : b < 256
    · have hd : decide ((b : Int) < 256) = true := decide_eq_true (by omega)
      have hle := HR.out.le
      have hlo : lo < 256 := by omega
      have hlol : (lo : Int) < 256 := by omega
      have hbl : (b : Int) < 256 := by omega
      have e0 := HS.out.cell hlo
      by_cases h255 : b < 255
      · have hd2 : decide ((b : Int) < 255) = true := decide_eq_true (by omega)
        have e1 := HS.out.cell (show b + 1 < 256 by omega)
        have hb1 : ((b : Int) + 1) < 256 := by omega
        by_cases heq : f (b + 1) = f lo
        · have HC := Lib.hid (HR.out.cont h255 heq)
          gi_wp2_with fail
          gi_quiet (fail)
          have hb1 : Below wr.heap.size wr (wr.drewN nq) := below_drewN wr nq
          have HS1 := Lib.hid (HS.out.below hb1)
          have HJ1 := Lib.hid (HA.out pre wr (wr.drewN nq) none HJ.out (grown_of_below hb1) (fun r e => by cases e))
          have hsz1 : W.heap.size ≤ (wr.drewN nq).heap.size := Nat.le_trans hsz hb1.size
          clear HS HJ hb1
          gi_wp2
          go_roundw
          case rel => exact ⟨lo, b + 1, pre, rfl, num_succ b, by omega, HC, HS1, hsz1, HJ1⟩
          case measure => simp [intOf]; omega
        · have hbq : (f (b + 1) == f lo) = false := by rw [beq_eq_false_iff_ne]; exact heq
          have HNE : b = 255 ∨ f (b + 1) ≠ f lo := .inr heq
          have hwl : IntKind.u8.wrap (lo : Int) = lo := by rw [IntKind.wrap_u8]; omega
          have hwb : IntKind.u8.wrap (b : Int) = b := by rw [IntKind.wrap_u8]; omega
          gi_wp2_with fail
          gi_quiet (fail)
          obtain ⟨w1, hw1⟩ : ∃ w1, wr.drewN nq = w1 := ⟨_, rfl⟩
          rw [hw1]
          have hb1 : Below wr.heap.size wr w1 := by rw [← hw1]; exact below_drewN wr nq
          have HS1 := Lib.hid (HS.out.below hb1)
          have HJ1 := Lib.hid (HA.out pre wr w1 none HJ.out (grown_of_below hb1) (fun r e => by cases e))
          have hsz1 := Nat.le_trans hsz hb1.size
          have HE := Lib.hid (HR.out.emit hlt HNE)
          have hln := HR.out.len
          have d0 := HS1.out.cell hlo
          clear hw1 hb1 HS HJ e0
          obtain ⟨fn, tmps, assign, body, hy, hR⟩ := HY.out pre ⟨lo, b, f lo⟩ w1 HJ1.out (by omega)
          dsimp only [arcV] at hy
          have HRR := Lib.hid hR
          clear hR
          gi_wp2
          refine HRR.out.mono ?_
          clear HRR hy
          rintro er W3 (⟨rfl, hJ5, hk5⟩ | ⟨rfl, hJx5⟩)
          · have HS5 := Lib.hid (hk5.ints HS1.out)
            have HJ5 := Lib.hid hJ5
            have hsz5 := Nat.le_trans hsz1 hk5.1.size
            clear hk5 hJ5 HS1 HJ1 d0
            gi_wp2
            go_roundw
            case rel => exact ⟨b + 1, b + 1, pre ++ [⟨lo, b, f lo⟩], num_succ b, num_succ b, by omega, HE, HS5, hsz5, HJ5⟩
            case measure => simp [intOf]; omega
          · gi_wp2
            refine bodyPost_ret (results_none rfl _ _ _) rfl ?_
            exact ⟨⟨_, rfl⟩, .inr ⟨_, hJx5⟩⟩
      · have hd2 : decide ((b : Int) < 255) = false := decide_eq_false (by omega)
        have HNE : b = 255 ∨ f (b + 1) ≠ f lo := .inl (by omega)
        have hwl : IntKind.u8.wrap (lo : Int) = lo := by rw [IntKind.wrap_u8]; omega
        have hwb : IntKind.u8.wrap (b : Int) = b := by rw [IntKind.wrap_u8]; omega
        gi_wp2_with fail
        gi_quiet (fail)
        obtain ⟨w1, hw1⟩ : ∃ w1, wr.drewN nq = w1 := ⟨_, rfl⟩
        rw [hw1]
        have hb1 : Below wr.heap.size wr w1 := by rw [← hw1]; exact below_drewN wr nq
        have HS1 := Lib.hid (HS.out.below hb1)
        have HJ1 := Lib.hid (HA.out pre wr w1 none HJ.out (grown_of_below hb1) (fun r e => by cases e))
        have hsz1 := Nat.le_trans hsz hb1.size
        have HE := Lib.hid (HR.out.emit hlt HNE)
        have hln := HR.out.len
        have d0 := HS1.out.cell hlo
        clear hw1 hb1 HS HJ e0
        obtain ⟨fn, tmps, assign, body, hy, hR⟩ := HY.out pre ⟨lo, b, f lo⟩ w1 HJ1.out (by omega)
        dsimp only [arcV] at hy
        have HRR := Lib.hid hR
        clear hR
        gi_wp2
        refine HRR.out.mono ?_
        clear HRR hy
        rintro er W3 (⟨rfl, hJ5, hk5⟩ | ⟨rfl, hJx5⟩)
        · have HS5 := Lib.hid (hk5.ints HS1.out)
          have HJ5 := Lib.hid hJ5
          have hsz5 := Nat.le_trans hsz1 hk5.1.size
          clear hk5 hJ5 HS1 HJ1 d0
          gi_wp2
          go_roundw
          case rel => exact ⟨b + 1, b + 1, pre ++ [⟨lo, b, f lo⟩], num_succ b, num_succ b, by omega, HE, HS5, hsz5, HJ5⟩
          case measure => simp [intOf]; omega
        · gi_wp2
          refine bodyPost_ret (results_none rfl _ _ _) rfl ?_
          exact ⟨⟨_, rfl⟩, .inr ⟨_, hJx5⟩⟩
    · obtain rfl : b = 256 := by omega
      have hd : decide (((256 : Nat) : Int) < 256) = false := by decide
      gi_wp2
      go_end0
      exact ⟨⟨_, rfl⟩, .inl ⟨pre, HR.out.all, HJ.out⟩⟩
end Go.Proofs.Ytiikmpgadmmjeaa
