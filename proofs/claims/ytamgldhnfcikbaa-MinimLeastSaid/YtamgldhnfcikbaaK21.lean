/- Texts that a proof rests on: minim.classesOf of a machine without states. | minim.classesOf of a machine without states: what it returns isn't looked at. | What minim.trimmed works on: the new numbers, the states kept so far. | The contract of minim.trimmed, for a sound machine with states. | minim.trimmed of a machine that is not sound, or has no states. | A state's number, once more: what else stays; rows of states of one's own. | Mathematics of merged: the machine as it grows while states are come to. -/
import Derived.Test.YtamgldhnfcikbaaK20
import Derived.Test.YtamgldhnfcikbaaK19
set_option maxRecDepth 100000
namespace Go.Proofs.Ytamgldhnfcikbaa
open Go.RowKit

set_option linter.unusedSimpArgs false in
theorem split_none (bp c : Nat) (a : Option Addr) (w : World) : Calls Try.prog 48 #[.pointer (some ⟨bp, 0, none⟩), .slice a (0 : Nat) c] w fun e w' => e = .returned (.tuple #[]) ∧ Hid (Below w.heap.size w w') := by
  have hd : decide ((0 : Int) < 0) = false := by simp
  have HB := Lib.hid (Below.refl w.heap.size w)
  go_enter Try.func48, Try.ntmps48
  go_wp2
  go_loopw [4, 12] (fun vt z wr => vt = .slice none 0 0 ∧ z = .int .i64 0 ∧ Hid (Below w.heap.size w wr)) (fun _ _ _ => 0)
  case atStart => exact ⟨rfl, rfl, HB⟩
  case round =>
    clear HB
    obtain ⟨rfl, rfl, HB⟩ := hrel
    go_wp2
    go_loopw [50] (fun z wr => z = .int .i64 0 ∧ Hid (Below w.heap.size w wr)) (fun _ _ => 0)
    case atStart => exact ⟨rfl, HB⟩
    case round =>
      clear HB
      obtain ⟨rfl, HB⟩ := hrel
      go_wp2
      go_end0
      exact ⟨rfl, HB⟩
set_option linter.unusedSimpArgs false in
theorem members_none (bp gs o c cs : Nat) (a : Option Addr) (w : World) (h0 : w.cell? ⟨bp, 0, none⟩ = some (.slice a (0 : Nat) c)) (h3 : w.cell? ⟨bp, 3, none⟩ = some (.slice (some ⟨gs, o, none⟩) (1 : Nat) cs))
    (s0 : w.cell? ⟨gs, o, none⟩ = some (.int .i64 0)) (s1 : w.cell? ⟨gs, o + 1, none⟩ = some (.int .i64 0)) (s2 : w.cell? ⟨gs, o + 2, none⟩ = some (.int .i64 0)) :
    Calls Try.prog 63 #[.pointer (some ⟨bp, 0, none⟩), .int .i64 0] w fun e w' => (∃ a' c', e = .returned (.slice a' (0 : Nat) c')) ∧ Hid (Below w.heap.size w w') := by
  obtain ⟨N, hN⟩ : ∃ N, w.heap.size = N := ⟨_, rfl⟩
  obtain ⟨w1, hw1⟩ : ∃ w1, w.alloc (.cells #[.int .i64 0, .int .i64 0, .int .i64 0] 106) = w1 := ⟨_, rfl⟩
  have hx1 : w1.heap[N]? = some (.cells #[.int .i64 0, .int .i64 0, .int .i64 0] 106 (0, 0)) := by rw [← hw1, ← hN]; exact heap_alloc_new w _
  have d0 : w1.cell? ⟨N, 0, none⟩ = some (.int .i64 0) := (cell_of_row w1 N 0 _ _ _ hx1).trans rfl
  have d2 : w1.cell? ⟨N, 2, none⟩ = some (.int .i64 0) := (cell_of_row w1 N 2 _ _ _ hx1).trans rfl
  have hb1 : Below w.heap.size w w1 := by rw [← hw1]; exact new_one w _
  have HB1 := Lib.hid hb1
  have p0 := cell_below hb1 h0
  clear hx1 hb1 h0
  subst hw1
  cases a with
  | none =>
    go_enter Try.func63, Try.ntmps63
    go_upto_region 2 with fail
    go_quiet (fail)
    have hb2 := below_drewN (w.alloc (.cells #[.int .i64 0, .int .i64 0, .int .i64 0] 106)) nq
    go_wp2
    exact bodyPost_ret (v := .slice none 0 c) (by simp [results, Try.results63, go_sem]) rfl ⟨⟨_, _, rfl⟩, Lib.hid (by exact HB1.out.trans (hb2.mono HB1.out.size))⟩
  | some ad =>
    go_enter Try.func63, Try.ntmps63
    go_upto_region 2 with fail
    go_quiet (fail)
    have hb2 := below_drewN (w.alloc (.cells #[.int .i64 0, .int .i64 0, .int .i64 0] 106)) nq
    go_wp2
    exact bodyPost_ret (v := .slice (some ad) 0 c) (by simp [results, Try.results63, go_sem]) rfl ⟨⟨_, _, rfl⟩, Lib.hid (by exact HB1.out.trans (hb2.mono HB1.out.size))⟩
structure P0 (w : World) (bp gs c cs : Nat) (a : Option Addr) : Prop where
  h0 : w.cell? ⟨bp, 0, none⟩ = some (.slice a (0 : Nat) c)
  h3 : w.cell? ⟨bp, 3, none⟩ = some (.slice (some ⟨gs, 0, none⟩) (1 : Nat) cs)
  s0 : w.cell? ⟨gs, 0, none⟩ = some (.int .i64 0)
  s1 : w.cell? ⟨gs, 1, none⟩ = some (.int .i64 0)
  s2 : w.cell? ⟨gs, 2, none⟩ = some (.int .i64 0)
theorem P0.below {w w' : World} {bp gs c cs : Nat} {a : Option Addr} (h : P0 w bp gs c cs a) (hb : Below w.heap.size w w') : P0 w' bp gs c cs a :=
  ⟨cell_below hb h.h0, cell_below hb h.h3, cell_below hb h.s0, cell_below hb h.s1, cell_below hb h.s2⟩
set_option linter.unusedSimpArgs false in
set_option maxHeartbeats 4000000 in
theorem refine_none (bp gs c cs cnt : Nat) (a : Option Addr) (vi : Value) (w : World) (h : P0 w bp gs c cs a) (hc : cnt ≤ 256) :
    Calls Try.prog 50 #[.pointer (some ⟨bp, 0, none⟩), vi, .int .i64 cnt] w fun e w' => e = .returned (.tuple #[]) ∧ Hid (Below w.heap.size w w') := by
  obtain ⟨bf, hbf⟩ : ∃ bf, w.heap.size = bf := ⟨_, rfl⟩
  have hmk := make_slices Try.underlying53 infoRow (c := (cnt : Int)) (n := cnt) rfl (by omega) w
  obtain ⟨w1, hw1⟩ : ∃ w1, w.alloc (.cells (Slices cnt fun _ => .slice none 0 0) 44) = w1 := ⟨_, rfl⟩
  have HX : Hid (w1.heap[bf]? = some (.cells (Slices cnt fun _ => .slice none 0 0) 44 (0, 0))) := Lib.hid (by rw [← hw1, ← hbf]; exact heap_alloc_new w _)
  have HB : Hid (Below bf w w1) := Lib.hid (by rw [← hw1, ← hbf]; exact new_one w _)
  have HP := Lib.hid (show ∀ wr, Below bf w wr → P0 wr bp gs c cs a from fun wr hb => h.below (by rw [hbf]; exact hb))
  have HBF := Lib.hid (show ∀ wr, Below bf w wr → bf ≤ wr.heap.size from fun wr hb => by rw [← hbf]; exact hb.size)
  rw [hw1, hbf] at hmk
  rw [hbf]
  clear h hw1
  go_enter Try.func50, Try.ntmps50
  go_upto_region 2 with fail
  clear hmk
  go_loopw [7] (fun z wr => ∃ i : Nat, z = .int .i64 i ∧ i ≤ 1 ∧ Hid (wr.heap[bf]? = some (.cells (Slices cnt fun _ => .slice none 0 0) 44 (0, 0))) ∧ Hid (Below bf w wr)) (fun z _ => 1 - (intOf z).toNat)
  case atStart => exact ⟨0, rfl, Nat.zero_le _, HX, HB⟩
  case round =>
    clear HX HB
    obtain ⟨i, rfl, hi, HX, HB⟩ := hrel
    have e3 := (HP.out wr HB.out).h3
    by_cases hi0 : i = 0
    · subst hi0
      go_upto_region 5 with fail
      clear e3
      go_loopw [28] (fun z wr => ∃ j : Nat, z = .int .i64 j ∧ j ≤ cnt ∧ Hid (wr.heap[bf]? = some (.cells (Slices cnt fun _ => .slice none 0 0) 44 (0, 0))) ∧ Hid (Below bf w wr)) (fun z _ => cnt - (intOf z).toNat)
      case atStart => exact ⟨0, rfl, Nat.zero_le _, HX, HB⟩
      case round =>
        clear HX HB
        obtain ⟨j, rfl, hj, HX, HB⟩ := hrel
        by_cases hjc : j < cnt
        · have hd1 : decide ((j : Int) < cnt) = true := decide_eq_true (by omega)
          have hjc2 : (j : Int) < cnt := by omega
          have d0 : wr.cell? ⟨bf, j, none⟩ = some (.slice none 0 0) := (cell_of_row wr bf j _ _ _ HX.out).trans (slices_at _ hjc)
          have hfz : wr.frozen? ⟨bf, j, none⟩ = false := frozen_row (j := j) HX.out
          have HX2 : Hid ((wr.setCell ⟨bf, j, none⟩ (.slice none 0 0)).heap[bf]? = some (.cells (Slices cnt fun _ => .slice none 0 0) 44 (0, 0))) := Lib.hid (by
            rw [setCell_block HX.out, slices_set (g := fun _ => .slice none 0 0) rfl fun _ _ _ => rfl])
          have HB2 : Hid (Below bf w (wr.setCell ⟨bf, j, none⟩ (.slice none 0 0))) := Lib.hid (HB.out.setCell (p := ⟨bf, j, none⟩) (Nat.le_refl bf) _)
          clear HX HB
          go_wp2
          exact ⟨⟨j + 1, num_succ j, by omega, HX2, HB2⟩, by simp [intOf]; omega⟩
        · have hd1 : decide ((j : Int) < cnt) = false := decide_eq_false (by omega)
          obtain rfl : cnt = j := by omega
          have hp := HP.out wr HB.out
          have hM := members_none bp gs 0 c cs a wr hp.h0 hp.h3 hp.s0 hp.s1 hp.s2
          clear hp
          have hd2 : decide ((0 : Int) < 0) = false := by simp
          go_wp2_with (go_at_call 63; refine hM.mono ?_; rintro e w2 ⟨⟨a2, c2, rfl⟩, hb2⟩; have HX2 : Hid (w2.heap[bf]? = some (.cells (Slices cnt fun _ => .slice none 0 0) 44 (0, 0))) := Lib.hid ((hb2.out.block bf (lt_of_block HX.out)).trans HX.out); have HB2 : Hid (Below bf w w2) := Lib.hid (HB.out.trans (hb2.out.mono (HBF.out wr HB.out))); clear hb2)
          clear hM HX HB
          go_loopw [44] (fun z wr => z = .int .i64 0 ∧ Hid (wr.heap[bf]? = some (.cells (Slices cnt fun _ => .slice none 0 0) 44 (0, 0))) ∧ Hid (Below bf w wr)) (fun _ _ => 0)
          case atStart => exact ⟨rfl, HX2, HB2⟩
          case round =>
            clear HX2 HB2
            obtain ⟨rfl, HX, HB⟩ := hrel
            go_wp2
            go_loopw [74] (fun z wr => ∃ j : Nat, z = .int .i64 j ∧ j ≤ cnt ∧ Hid (wr.heap[bf]? = some (.cells (Slices cnt fun _ => .slice none 0 0) 44 (0, 0))) ∧ Hid (Below bf w wr)) (fun z _ => cnt - (intOf z).toNat)
            case atStart => exact ⟨0, rfl, Nat.zero_le _, HX, HB⟩
            case round =>
              clear HX HB
              obtain ⟨j, rfl, hj, HX, HB⟩ := hrel
              by_cases hjc : j < cnt
              · have hd1 : decide ((j : Int) < cnt) = true := decide_eq_true (by omega)
                have hjc2 : (j : Int) < cnt := by omega
                have d0 : wr.cell? ⟨bf, j, none⟩ = some (.slice none 0 0) := (cell_of_row wr bf j _ _ _ HX.out).trans (slices_at _ hjc)
                have hsp := split_none bp 0 none wr
                go_wp2_with (go_at_call 48; refine hsp.mono ?_; rintro e w3 ⟨rfl, hb3⟩; have HX3 : Hid (w3.heap[bf]? = some (.cells (Slices cnt fun _ => .slice none 0 0) 44 (0, 0))) := Lib.hid ((hb3.out.block bf (lt_of_block HX.out)).trans HX.out); have HB3 : Hid (Below bf w w3) := Lib.hid (HB.out.trans (hb3.out.mono (HBF.out wr HB.out))); clear hb3)
                go_roundw
                case rel => exact ⟨j + 1, num_succ j, by omega, HX3, HB3⟩
                case measure => simp [intOf]; omega
              · have hd1 : decide ((j : Int) < cnt) = false := decide_eq_false (by omega)
                go_wp2
                go_roundw
                case rel => exact ⟨1, rfl, Nat.le_refl _, HX, HB⟩
                case measure => simp [intOf]
    · obtain rfl : i = 1 := by omega
      go_wp2
      go_end0
      exact ⟨rfl, HB⟩
end Go.Proofs.Ytamgldhnfcikbaa
set_option maxRecDepth 100000
namespace Go.Proofs.Ytamgldhnfcikbaa
open Go.RowKit

theorem NP.none {w : World} {N : Nat} {v u : Value} (h : NP w N 0 0 0 v u) : ∃ a c, P0 w (N + 2) (N + 1) c 1 a := by
  obtain ⟨a, c, rfl⟩ := row_form h.ro
  exact ⟨a, c, (cell_of_row w (N + 2) 0 _ _ _ h.blk).trans rfl, (cell_of_row w (N + 2) 3 _ _ _ h.blk).trans rfl, (h.rs.cellAt 0 (by omega)).trans rfl, (h.rs.cellAt 1 (by omega)).trans rfl, (h.rs.cellAt 2 (by omega)).trans rfl⟩
set_option linter.unusedSimpArgs false in
set_option maxHeartbeats 4000000 in
theorem classes_none (a0 : Option Addr) (c0 : Nat) (w : World) (hv : MachAt w (.slice a0 (0 : Nat) c0) []) :
    Calls Try.prog 23 #[.slice a0 (0 : Nat) c0] w fun e w' => (∃ u, e = .returned u) ∧ Hid (Below w.heap.size w w') := by
  obtain ⟨N, hN⟩ : ∃ N, w.heap.size = N := ⟨_, rfl⟩
  have HV := Lib.hid (show ∀ wr, Below N w wr → MachAt wr (.slice a0 (0 : Nat) c0) [] from fun wr h => hv.below (by rw [hN]; exact h))
  have hNP := newPart_any 0 w (by omega)
  have HSZ := Lib.hid (show ∀ wr, Below N w wr → N ≤ wr.heap.size from fun wr h => by rw [← hN]; exact h.size)
  rw [hN] at hNP ⊢
  have Z := zero_ints
  have hd : decide ((0 : Int) < 0) = false := by simp
  have hm0 : Mays [] := fun s hs => by simp at hs
  clear hv
  go_enter Try.func23, Try.ntmps23
  go_upto_region 2 with (go_at_call 46; refine hNP.mono ?_; rintro e w1 ⟨rfl, ⟨v1, u1, hnp⟩, hb1⟩; obtain ⟨ap, cp, hp0⟩ := hnp.out.none; have HP1 := Lib.hid hp0; have HNB := Lib.hid hnp.out.blk; have HB1 := hb1; clear hnp hb1 hp0)
  clear hNP
  have hacc := byacc_any _ [] w1 (HV.out w1 HB1.out) (by simp)
  go_wp2_with (go_at_call 47; refine hacc.mono ?_; rintro e w2 ⟨vg, V, rfl, hgr, hb2⟩; obtain ⟨ag, cg, hvg⟩ := row_form hgr.out.outer; have hvg2 : vg = .slice ag (0 : Nat) cg := hvg; clear hvg hgr; subst hvg2; have HB2 : Hid (Below N w w2) := Lib.hid (HB1.out.trans (hb2.out.mono (HSZ.out w1 HB1.out))); have HB12 := hb2; clear hb2)
  clear hacc
  go_loopw [14] (fun z wr => z = .int .i64 0 ∧ Hid (Below N w wr) ∧ Hid (Below w1.heap.size w1 wr)) (fun _ _ => 0)
  case atStart => exact ⟨rfl, HB2, HB12⟩
  case round =>
    clear HB2 HB12
    obtain ⟨rfl, HBW, HBX⟩ := hrel
    have hstr := stripes_any _ [] wr (HV.out wr HBW.out) (by simp) (fun s hs => by simp at hs) hm0
    go_wp2_with (first
        | (go_at_call 49; refine hstr.mono ?_; rintro e w3 ⟨⟨f, hf, rfl⟩, hb3⟩; have HB3 := hb3; have HZ := Lib.hid (heap_alloc_new w3 (.cells (Ints fun _ => 0) 49)); clear hf hb3)
        | (refine wpList_store_ints w3.heap.size (fun _ => 0) (fun i => ((cntB f i : Nat) : Int)) HZ.out rfl _ _ rfl rfl rfl ?_; have HI5 := Lib.hid (IBlk.setRow HZ.out (g := fun i => ((cntB f i : Nat) : Int))); have HB5 := Lib.hid (below_setRow (new_one w3 (.cells (Ints fun _ => 0) 49)) (Nat.le_refl w3.heap.size) (Ints fun i => ((cntB f i : Nat) : Int))); generalize (w3.alloc (.cells (Ints fun _ => 0) 49)).setRow w3.heap.size (Ints fun i => ((cntB f i : Nat) : Int)) = w5 at *)
        | (refine wpList_load_ints w3.heap.size (fun i => ((cntB f i : Nat) : Int)) HI5.out rfl _ rfl rfl ?_)
        | (go_at_call 51; have HR5 := Lib.hid (HB3.out.trans (HB5.out.mono HB3.out.size)); refine (entries_any _ [] f w5 (HV.out w5 (HBW.out.trans (HR5.out.mono (HSZ.out wr HBW.out)))) (by simp) (fun s hs => by simp at hs) hm0 (fun s hs => by simp at hs)).mono ?_; rintro e w6 ⟨be, VE, rfl, hrr, hbe, hb6⟩; have HB6 := Lib.hid (HR5.out.trans (hb6.out.mono HR5.out.size)); clear hrr hbe hb6)
        | (go_at_call 50; have HX6 := Lib.hid (HBX.out.trans (HB6.out.mono HBX.out.size)); refine (refine_none (N + 2) (N + 1) cp 1 (cntB f 255 + 1) ap _ w6 (HP1.out.below HX6.out) (by have := cntB_le f 255; omega)).mono ?_; rintro e w7 ⟨rfl, hr7⟩; have HX7 := Lib.hid (HX6.out.trans (hr7.out.mono HX6.out.size)); have HB7 := Lib.hid (HB1.out.trans (HX7.out.mono (HSZ.out w1 HB1.out))); have d2 : w7.cell? ⟨N + 2, 2, none⟩ = some (.slice (some ⟨N, 0, none⟩) (0 : Nat) (0 : Nat)) := (cell_of_row w7 (N + 2) 2 _ _ _ ((HX7.out.block (N + 2) (lt_of_block HNB.out)).trans HNB.out)).trans rfl; clear hr7))
    exact bodyPost_ret (v := .slice (some ⟨N, 0, none⟩) (0 : Nat) (0 : Nat)) (by simp [results, Try.results23, go_sem, *]) rfl ⟨⟨_, rfl⟩, HB7⟩
end Go.Proofs.Ytamgldhnfcikbaa
set_option maxRecDepth 100000
namespace Go.Proofs.Ytamgldhnfcikbaa
open Go.RowKit

theorem infoState : (Try.prog.info? 42).map (fun i => (i.zero, i.size, i.bytes)) = some (some (.agg #[.int .u64 0, .slice none 0 0]), 2, 32) := by kernel_rfl
def numT (S : Nat → Bool) (i j : Nat) : Int := if j < i then (if S j = true then (keptN S j : Nat) else -1) else 0
theorem numT_set {S : Nat → Bool} {i n : Nat} {x : Int} (f : Nat → Int) (hf : ∀ j, j ≠ i → f j = numT S i j) (hx : x = if S i = true then ((keptN S i : Nat) : Int) else -1) : (Slices n fun j => .int .i64 (f j)).setIfInBounds i (.int .i64 x) = Slices n fun j => .int .i64 (numT S (i + 1) j) := by
  refine slices_set ?_ fun j _ hne => ?_
  · rw [hx]; unfold numT; rw [if_pos (by omega)]
  · rw [hf j hne]
    unfold numT
    by_cases h : j < i
    · have h2 : j < i + 1 := by omega
      rw [if_pos h, if_pos h2]
    · have h2 : ¬ j < i + 1 := by omega
      rw [if_neg h, if_neg h2]
theorem numT_neg {S : Nat → Bool} {i n : Nat} : (Slices n fun j => .int .i64 (numT S i j)).setIfInBounds i (.int .i64 (-1)) = Slices n fun j => .int .i64 (if j = i then -1 else numT S i j) := by
  refine slices_set (by rw [if_pos rfl]) fun j _ hne => by rw [if_neg hne]
theorem numT_all {S : Nat → Bool} {n : Nat} {d : Int} (h0 : 0 ≤ d) (h1 : d < n) : numT S n d.toNat = keptD S n d := by
  unfold numT keptD
  rw [if_pos (by omega)]
  by_cases h : S d.toNat = true
  · rw [if_pos h, if_pos ⟨h0, h1, h⟩]
  · rw [if_neg h, if_neg (fun hh => h hh.2.2)]
def kvals (S : Nat → Bool) (m : List Sta) (AV : Nat → Value) (i : Nat) : List Value := (keptL S i).flatMap fun s => [.int .u64 (accS m (s : Nat) : Nat), AV s]
theorem kvals_yes {S : Nat → Bool} {m : List Sta} {AV : Nat → Value} {i : Nat} (h : S i = true) : kvals S m AV (i + 1) = kvals S m AV i ++ [.int .u64 (accS m (i : Nat) : Nat), AV i] := by
  unfold kvals; rw [keptL_succ, if_pos h, List.flatMap_append]; simp
theorem kvals_no {S : Nat → Bool} {m : List Sta} {AV : Nat → Value} {i : Nat} (h : S i = false) : kvals S m AV (i + 1) = kvals S m AV i := by
  unfold kvals; rw [keptL_succ, h]; simp
theorem keptN_le (S : Nat → Bool) : ∀ i, (keptL S i).length ≤ i
  | 0 => by simp [keptL]
  | i + 1 => by
    have := keptN_le S i
    rw [keptL_succ, List.length_append]
    split <;> simp <;> omega
theorem two_at {α : Type} (f g : α → Value) : ∀ (l : List α) (j : Nat) (x : α), l[j]? = some x → (l.flatMap fun s => [f s, g s])[j * 2]? = some (f x) ∧ (l.flatMap fun s => [f s, g s])[j * 2 + 1]? = some (g x)
  | [], j, x, h => by simp at h
  | y :: l, 0, x, h => by cases h; exact ⟨rfl, rfl⟩
  | y :: l, j + 1, x, h => by
    have ih := two_at f g l j x (by simpa using h)
    rw [List.flatMap_cons, show (j + 1) * 2 = j * 2 + 1 + 1 by omega]
    exact ih
structure T2 (w1 wr : World) (m : List Sta) (S : Nat → Bool) (AV : Nat → Value) (bn K : Nat) (a3 : Option Addr) (i : Nat) (Vs : Nat → Value) : Prop where
  nb : wr.heap[bn]? = some (.cells (Slices m.length fun j => .int .i64 (numT S m.length j)) 3 (0, 0))
  row : 0 < K → ∃ bk cur, a3 = some ⟨bk, 0, none⟩ ∧ bn < bk ∧ wr.heap[bk]? = some (.cells cur 42 (0, 0)) ∧ ∀ j s, (keptL S m.length)[j]? = some s → cur[j * 2]? = some (.int .u64 (accS m (s : Nat) : Nat)) ∧ cur[j * 2 + 1]? = some (if j < i then Vs j else AV s)
  arcs : ∀ j s (hs : s < m.length), j < i → (keptL S m.length)[j]? = some s → wr.ownsRow (bn + 1) 38 3 (Vs j) (trimA S m.length m[s].arcs).length (flatA (trimA S m.length m[s].arcs)) ∧ ∀ bk, a3 = some ⟨bk, 0, none⟩ → (Vs j).ownBlock ≠ some bk
  bl : Below bn w1 wr
theorem T2.start {w1 wr : World} {m : List Sta} {S : Nat → Bool} {AV : Nat → Value} {bn K c : Nat} {a3 : Option Addr} (hK : (keptL S m.length).length = K) (hn : wr.heap[bn]? = some (.cells (Slices m.length fun j => .int .i64 (numT S m.length j)) 3 (0, 0)))
    (hr : wr.ownsRow (bn + 1) 42 2 (.slice a3 K c) K (kvals S m AV m.length)) (hb : Below bn w1 wr) (Vs : Nat → Value) : T2 w1 wr m S AV bn K a3 0 Vs := by
  refine ⟨hn, fun h0 => ?_, fun j s hs hj => by omega, hb⟩
  rcases hr.2 with ⟨_, e⟩ | ⟨g, cap, cur, e, h1, h2, h3, h4, h5, h6⟩
  · omega
  · cases e
    refine ⟨g, cur, rfl, h1, h2, fun j s hj => ?_⟩
    have hjK : j < K := by
      rw [← hK]
      rcases Nat.lt_or_ge j (keptL S m.length).length with h | h
      · exact h
      · rw [List.getElem?_eq_none h] at hj; cases hj
    have h7 : ∀ q, q < K * 2 → cur[q]? = (kvals S m AV m.length)[q]? := fun q hq => by
      rw [← h6, List.getElem?_take, if_pos hq]; simp
    obtain ⟨e1, e2⟩ := two_at (fun s : Nat => Value.int .u64 (accS m (s : Nat) : Nat)) AV (keptL S m.length) j s hj
    rw [h7 _ (by omega), h7 _ (by omega), if_neg (by omega)]
    exact ⟨e1, e2⟩
theorem T2.below {w1 wr w' : World} {m : List Sta} {S : Nat → Bool} {AV : Nat → Value} {bn K i : Nat} {a3 : Option Addr} {Vs : Nat → Value} (h : T2 w1 wr m S AV bn K a3 i Vs) (hb : Below wr.heap.size wr w') : T2 w1 w' m S AV bn K a3 i Vs := by
  have hlt := lt_of_block h.nb
  refine ⟨(hb.block bn hlt).trans h.nb, fun h0 => ?_, fun j s hs hj hk => ?_, h.bl.trans (hb.mono (Nat.le_of_lt hlt))⟩
  · obtain ⟨bk, cur, e1, e2, e3, e4⟩ := h.row h0
    exact ⟨bk, cur, e1, e2, (hb.block bk (lt_of_block e3)).trans e3, e4⟩
  · obtain ⟨h1, h2⟩ := h.arcs j s hs hj hk
    exact ⟨row_same h1 fun q e => hb.block q (h1.lt q e).2, h2⟩
theorem T2.step {w1 wr w' : World} {m : List Sta} {S : Nat → Bool} {AV : Nat → Value} {bn K i bk s0 : Nat} {a3 : Option Addr} {Vs : Nat → Value} {u : Value} (h : T2 w1 wr m S AV bn K a3 i Vs) (hb : Below wr.heap.size wr w') (ha : a3 = some ⟨bk, 0, none⟩) (h0 : (keptL S m.length)[i]? = some s0) (hs0 : s0 < m.length) (hK : 0 < K)
    (hu : w'.ownsRow wr.heap.size 38 3 u (trimA S m.length m[s0].arcs).length (flatA (trimA S m.length m[s0].arcs))) : T2 w1 (w'.setCell ⟨bk, i * 2 + 1, none⟩ u) m S AV bn K a3 (i + 1) (upd Vs i u) := by
  have h2 := h.below hb
  have hbn := lt_of_block h.nb
  obtain ⟨bk', cur, e1, e2, e3, e4⟩ := h2.row hK
  rw [ha] at e1
  cases e1
  obtain ⟨bk2, _, e5, _, e6, _⟩ := h.row hK
  rw [ha] at e5
  cases e5
  have hbk := lt_of_block e6
  refine ⟨(Below.heap_setCell _ _ _ _ (show bn ≠ bk by omega)).trans h2.nb, fun _ => ⟨bk, _, ha, e2, setCell_block e3 u, fun j s hj => ?_⟩, fun j s hs hj hk => ?_, ?_⟩
  · obtain ⟨k1, k2⟩ := e4 j s hj
    have hsz : j * 2 + 1 < cur.size := by
      rcases Nat.lt_or_ge (j * 2 + 1) cur.size with hh | hh
      · exact hh
      · rw [Array.getElem?_eq_none hh] at k2; cases k2
    rw [Array.getElem?_setIfInBounds_ne (by omega)]
    refine ⟨k1, ?_⟩
    by_cases e : j = i
    · subst e
      rw [Array.getElem?_setIfInBounds_self_of_lt hsz, if_pos (by omega), upd_same]
    · rw [Array.getElem?_setIfInBounds_ne (by omega), k2, upd_other Vs _ e]
      by_cases hh : j < i
      · rw [if_pos hh, if_pos (show j < i + 1 by omega)]
      · rw [if_neg hh, if_neg (show ¬ j < i + 1 by omega)]
  · by_cases e : j = i
    · subst e
      rw [h0] at hk
      cases hk
      rw [upd_same]
      have hne : ∀ bk', a3 = some ⟨bk', 0, none⟩ → u.ownBlock ≠ some bk' := fun b' hb' eu => by
        rw [ha] at hb'
        cases hb'
        have := (hu.lt bk eu).1
        omega
      refine ⟨row_same ⟨hu.1, hu.2.imp_right fun ⟨g, cap, cur, a, b, c⟩ => ⟨g, cap, cur, a, by omega, c⟩⟩ fun q eq => Below.heap_setCell _ _ _ _ fun e9 => hne bk ha (by have e9 : q = bk := e9; rw [← e9]; exact eq), hne⟩
    · obtain ⟨k1, k2⟩ := h2.arcs j s hs (by omega) hk
      rw [upd_other Vs _ e]
      exact ⟨row_same k1 fun q eq => Below.heap_setCell _ _ _ _ fun e9 => k2 bk ha (by have e9 : q = bk := e9; rw [← e9]; exact eq), k2⟩
  · exact h2.bl.setCell (p := ⟨bk, i * 2 + 1, none⟩) (by show bn ≤ bk; omega) _
theorem T2.done {w1 wr : World} {m : List Sta} {S : Nat → Bool} {AV : Nat → Value} {bn K c : Nat} {a3 : Option Addr} {Vs : Nat → Value} (h : T2 w1 wr m S AV bn K a3 K Vs) (hK : (keptL S m.length).length = K) : MachAt wr (.slice a3 K c) (trimS S m) := by
  have hl : (trimS S m).length = K := (trimS_len S m).trans hK
  refine ⟨a3, c, by rw [hl], fun i hi => ?_⟩
  have hiK : i < K := by omega
  obtain ⟨bk, cur, e1, e2, e3, e4⟩ := h.row (by omega)
  obtain ⟨s, hs, k, hks⟩ := trim_from hi
  subst hks
  have hat := keptL_at k m.length hs
  obtain ⟨k1, k2⟩ := e4 _ s hat
  rw [if_pos hiK] at k2
  rw [trim_arcs k hs hi]
  refine ⟨bk, 0, Vs (keptN S s), e1, ?_, ?_, arcs_of_row (h.arcs _ s hs hiK hat).1⟩
  · rw [Nat.zero_add]; exact (cell_of_row wr bk _ _ _ _ e3).trans k1
  · rw [Nat.zero_add]; exact (cell_of_row wr bk _ _ _ _ e3).trans k2
end Go.Proofs.Ytamgldhnfcikbaa
set_option maxRecDepth 100000
namespace Go.Proofs.Ytamgldhnfcikbaa
open Go.RowKit

theorem trimA_snoc (S : Nat → Bool) (n : Nat) {l : List Arc3} {e : Nat} (h : e < l.length) : trimA S n (l.take (e + 1)) = if keptD S n l[e].dest = -1 then trimA S n (l.take e) else trimA S n (l.take e) ++ [⟨l[e].lo, l[e].hi, keptD S n l[e].dest⟩] := by
  unfold trimA
  rw [List.take_succ_eq_append_getElem h, List.map_append, List.filter_append]
  by_cases hk : keptD S n l[e].dest = -1
  · rw [if_pos hk]; simp [hk]
  · rw [if_neg hk]; simp [hk]
set_option linter.unusedSimpArgs false in
set_option maxHeartbeats 8000000 in
theorem trimmed_any (v : Value) (m : List Sta) (w : World) (hv : MachAt w v m) (hl : ∀ s ∈ m, s.arcs.length < 1000000) (hm : Mays m) (h0 : 0 < (soundS m).length) (hs : soundS m = m) :
    Calls Try.prog 21 #[v] w fun e w' => ∃ u U, e = .returned u ∧ Hid (MachAt w' u (trimS U m)) ∧ Hid (Used m U) ∧ Hid (Below w.heap.size w w') := by
  obtain ⟨i0, hi0, hz0, hz1, hz2⟩ := info_parts infoState
  have HI := Lib.hid (And.intro hi0 (And.intro hz0 (And.intro hz1 hz2)))
  clear hi0 hz0 hz1 hz2
  have hmn : m.length ≤ 4096 := by rw [← hs]; exact (check_fits (soundS_ok m)).1
  have HFIT := Lib.hid (show ∀ s (h : s < m.length), fitsB m.length m[s].arcs = true from fun s h => by have := (check_fits (soundS_ok m)).2; rw [hs] at this; exact this _ (List.getElem_mem h))
  have hus := puseful_any v m w hv hl hm
  have HLL := Lib.hid (show ∀ s (h : s < m.length), m[s].arcs.length < 1000000 from fun s h => hl _ (List.getElem_mem h))
  obtain ⟨i1, hi1, hy0, hy1, hy2⟩ := info_parts infoArc
  have HIA := Lib.hid (And.intro hi1 (And.intro hy0 (And.intro hy1 hy2)))
  clear hi1 hy0 hy1 hy2
  rw [hs] at hus h0
  have hus2 : Calls Try.prog 11 #[v] w fun e w' => ∃ b S, e = .returned (.slice (some ⟨b, 0, none⟩) m.length m.length) ∧ Hid (Blk w' b m.length S) ∧ Hid (Used m S) ∧ Hid (Below w.heap.size w w') := hus.mono fun e w' hp => by
    obtain ⟨hb1, hp2⟩ := hp
    rcases hp2 with ⟨h9, _⟩ | ⟨_, b, S, e1, _, hS, hU⟩
    · exact absurd h9 (Nat.ne_of_gt h0)
    · exact ⟨b, S, e1, hS, Lib.hid hU.out, hb1⟩
  clear hus
  obtain ⟨N, hN⟩ : ∃ N, w.heap.size = N := ⟨_, rfl⟩
  have HV := Lib.hid (show ∀ wr, Below N w wr → MachAt wr v m from fun wr h => hv.below (by rw [hN]; exact h))
  obtain ⟨av, cv, rfl⟩ := hv.len
  have hAV : ∃ AV : Nat → Value, ∀ s (h : s < m.length), ∃ b o, av = some ⟨b, o, none⟩ ∧ w.cell? ⟨b, o + s * 2, none⟩ = some (.int .u64 (accS m (s : Nat) : Nat)) ∧ w.cell? ⟨b, o + s * 2 + 1, none⟩ = some (AV s) ∧ ArcsAt w (AV s) m[s].arcs := by
    refine Classical.axiomOfChoice (r := fun s a => ∀ (h : s < m.length), ∃ b o, av = some ⟨b, o, none⟩ ∧ w.cell? ⟨b, o + s * 2, none⟩ = some (.int .u64 (accS m (s : Nat) : Nat)) ∧ w.cell? ⟨b, o + s * 2 + 1, none⟩ = some a ∧ ArcsAt w a m[s].arcs) fun s => ?_
    by_cases h : s < m.length
    · obtain ⟨b, o, a, e1, e2, e3, e4⟩ := hv.at rfl h
      exact ⟨a, fun _ => ⟨b, o, e1, by rw [acc_at h]; exact e2, e3, e4⟩⟩
    · exact ⟨.slice none 0 0, fun h2 => absurd h2 h⟩
  obtain ⟨AV, hAV⟩ := hAV
  have HAV := Lib.hid hAV
  have HMN := Lib.hid hmn
  have HN := Lib.hid hN
  clear hAV hv hl hm hs
  clear hmn h0 hN
  go_enter Try.func21, Try.ntmps21
  go_upto_region 2 with (go_at_call 11; refine hus2.mono ?_; clear hus2; rintro e w1 ⟨b, S, he, HSB, HU, HB1⟩; rw [he]; clear he)
  have hmn := HMN.out
  obtain ⟨bn, hbn⟩ : ∃ bn, w1.heap.size = bn := ⟨_, rfl⟩
  have hmk := make_ints (c := (m.length : Int)) (n := m.length) rfl (by omega) w1
  obtain ⟨w2, hw2⟩ : ∃ w2, w1.alloc (.cells (natsV m.length fun _ => 0).toArray 3) = w2 := ⟨_, rfl⟩
  have HN0 : Hid (w2.heap[bn]? = some (.cells (Slices m.length fun j => .int .i64 (numT S 0 j)) 3 (0, 0))) := Lib.hid (by
    rw [← hw2, ← hbn]
    refine (heap_alloc_new w1 _).trans ?_
    have : (natsV m.length fun _ => 0).toArray = Slices m.length fun j => .int .i64 (numT S 0 j) := by
      unfold Slices natsV numT; simp
    rw [this])
  have HB2 : Hid (Below bn w1 w2) := Lib.hid (by rw [← hw2, ← hbn]; exact new_one w1 _)
  have HR0 : Hid (w2.ownsRow (bn + 1) 42 2 (.slice none 0 0) (keptL S 0).length (kvals S m AV 0)) := Lib.hid (World.ownsRow_nil _ _ _ _)
  have HBN := Lib.hid hbn
  rw [hw2, hbn] at hmk
  clear hw2 hbn
  go_upto_region 5 with fail
  clear hmk
  go_loopw [5, 19] (fun u z wr => ∃ i : Nat, z = .int .i64 i ∧ i ≤ m.length ∧ Hid (wr.heap[bn]? = some (.cells (Slices m.length fun j => .int .i64 (numT S i j)) 3 (0, 0))) ∧ Hid (wr.ownsRow (bn + 1) 42 2 u (keptL S i).length (kvals S m AV i)) ∧ Hid (Below bn w1 wr)) (fun _ z _ => m.length - (intOf z).toNat)
  case atStart => exact ⟨0, rfl, Nat.zero_le _, HN0, HR0, HB2⟩
  case round =>
    clear HN0 HR0 HB2
    obtain ⟨i, rfl, hi, HNB, HR, HB⟩ := hrel
    by_cases hlt : i < m.length
    · have hd : decide ((i : Int) < m.length) = true := decide_eq_true (by omega)
      have hlt2 : (i : Int) < m.length := by omega
      have hb1 : Below w1.heap.size w1 wr := by rw [HBN.out]; exact HB.out
      have d0 : wr.cell? ⟨b, i, none⟩ = some (.bool (S i)) := cell_below hb1 (HSB.out.cell hlt)
      have hfz : wr.frozen? ⟨bn, i, none⟩ = false := frozen_row (j := i) HNB.out
      have c0 : wr.cell? ⟨bn, i, none⟩ = some (.int .i64 (numT S i i)) := (cell_of_row wr bn i _ _ _ HNB.out).trans (slices_at _ hlt)
      obtain ⟨w4, hw4⟩ : ∃ w4, wr.setCell ⟨bn, i, none⟩ (.int .i64 (-1)) = w4 := ⟨_, rfl⟩
      have HN4 : Hid (w4.heap[bn]? = some (.cells (Slices m.length fun j => .int .i64 (if j = i then -1 else numT S i j)) 3 (0, 0))) := Lib.hid (by rw [← hw4, setCell_block HNB.out, numT_neg])
      have HB4 : Hid (Below bn w1 w4) := Lib.hid (by rw [← hw4]; exact HB.out.setCell (p := ⟨bn, i, none⟩) (Nat.le_refl bn) _)
      have HR4 : Hid (w4.ownsRow (bn + 1) 42 2 u5 (keptL S i).length (kvals S m AV i)) := Lib.hid (by
        rw [← hw4]
        exact row_same HR.out fun k e => Below.heap_setCell _ _ _ _ (show k ≠ bn by have := (HR.out.lt k e).1; omega))
      clear hb1
      cases hS : S i with
      | false =>
        rw [hS] at d0
        have HN6 : Hid (w4.heap[bn]? = some (.cells (Slices m.length fun j => .int .i64 (numT S (i + 1) j)) 3 (0, 0))) := Lib.hid (by
          rw [← hw4, setCell_block HNB.out, numT_set (numT S i) (fun _ _ => rfl) (by rw [hS]; rfl)])
        have HR6 : Hid (w4.ownsRow (bn + 1) 42 2 u5 (keptL S (i + 1)).length (kvals S m AV (i + 1))) := Lib.hid (by
          rw [kvals_no hS, keptL_succ, hS]; simpa using HR4.out)
        clear HN4 HR4 HNB HR HB
        go_wp2
        exact ⟨⟨i + 1, num_succ i, by omega, HN6, HR6, HB4⟩, by simp [intOf]; omega⟩
      | true =>
        rw [hS] at d0
        have hkl := keptN_le S i
        obtain ⟨ln, hln⟩ : ∃ ln, (keptL S i).length = ln := ⟨_, rfl⟩
        rw [hln] at hkl
        have c4 : w4.cell? ⟨bn, i, none⟩ = some (.int .i64 (-1)) := (cell_of_row w4 bn i _ _ _ HN4.out).trans ((slices_at _ hlt).trans (by rw [if_pos rfl]))
        have hfz4 : w4.frozen? ⟨bn, i, none⟩ = false := frozen_row (j := i) HN4.out
        obtain ⟨w5, hw5⟩ : ∃ w5, w4.setCell ⟨bn, i, none⟩ (.int .i64 (ln : Nat)) = w5 := ⟨_, rfl⟩
        have HN5 : Hid (w5.heap[bn]? = some (.cells (Slices m.length fun j => .int .i64 (numT S (i + 1) j)) 3 (0, 0))) := Lib.hid (by
          rw [← hw5, setCell_block HN4.out, numT_set (fun j => if j = i then -1 else numT S i j) (fun j hj => by rw [if_neg hj]) (by rw [hS, if_pos rfl, ← hln]; rfl)])
        have HB5 : Hid (Below bn w1 w5) := Lib.hid (by rw [← hw5]; exact HB4.out.setCell (p := ⟨bn, i, none⟩) (Nat.le_refl bn) _)
        have HR5 : Hid (w5.ownsRow (bn + 1) 42 2 u5 ln (kvals S m AV i)) := Lib.hid (by
          rw [← hw5, ← hln]
          exact row_same HR4.out fun k e => Below.heap_setCell _ _ _ _ (show k ≠ bn by have := (HR4.out.lt k e).1; omega))
        have hbw : Below w.heap.size w w5 := HB1.out.trans (by have := HB5.out; rw [← HBN.out] at this; exact this.mono HB1.out.size)
        obtain ⟨bm, om, rfl, e1, e2, e4⟩ := HAV.out i hlt
        obtain ⟨a5, c5, hva⟩ := e4.len
        obtain ⟨l5, hl5⟩ : ∃ l5, m[i].arcs.length = l5 := ⟨_, rfl⟩
        rw [hl5] at hva
        have d1 := cell_below hbw e1
        have d2 := cell_below hbw e2
        have HKV := Lib.hid (kvals_yes (m := m) (AV := AV) hS)
        have HKL := Lib.hid (show (keptL S (i + 1)).length = ln + 1 by rw [keptL_succ, hS, List.length_append, hln]; rfl)
        obtain ⟨ac, hac⟩ : ∃ ac, accS m (i : Nat) = ac := ⟨_, rfl⟩
        rw [hac] at d1 HKV
        rw [hva] at d2 HKV
        obtain ⟨a3, cp3, hu5⟩ := row_form HR5.out
        subst hu5
        have HRA := Lib.hid (HR5.out.alloc (.cells #[.int .u64 (ac : Nat), .slice a5 l5 c5] 42))
        have hsz5 : bn + 1 ≤ w5.heap.size := lt_of_block HN5.out
        clear e1 e2 e4 hl5 hbw HN4 HR4 HNB HR HB hac hva
        go_wp2_with (at_builtin; refine wpList_append_lies _ rfl _ _ 23 rfl (bn + 1) 42 i0 (.agg #[.int .u64 0, .slice none 0 0]) 2 32 Try.underlying23 HI.out.1 HI.out.2.1 HI.out.2.2.1 HI.out.2.2.2 rfl (by decide) (.slice a3 ln cp3) ln (kvals S m AV i) rfl HRA.out ⟨w5.heap.size, 0, none⟩ 1 1 [.int .u64 (ac : Nat), .slice a5 l5 c5] rfl rfl (news_in (cs := #[.int .u64 (ac : Nat), .slice a5 l5 c5]) (heap_alloc_new w5 _)) (by simp [Value.oneCell']) (by omega) (by unfold maxLen; omega) (by omega) (by simp; omega) (w5.heap.size + 1) (by simp) ?_; intro g2 cap2 w9 h2 h3 h4 h5; have HR9 := Lib.hid h2; have HB9 := Lib.hid (push3 HB5.out HR5.out (Nat.le_succ bn) (Nat.le_of_succ_le hsz5) ((Below.refl _ _).alloc (Nat.le_refl _) _) h3); have HN9 : Hid (w9.heap[bn]? = some (.cells (Slices m.length fun j => .int .i64 (numT S (i + 1) j)) 3 (0, 0))) := Lib.hid ((h3.block bn (by simp; omega) (fun e => by have := (HRA.out.lt bn e.symm).1; omega)).trans ((heap_alloc_old w5 _ (by omega)).trans HN5.out)); clear h2 h3 h4 h5)
        exact ⟨⟨i + 1, num_succ i, by omega, HN9, Lib.hid (by rw [HKL.out, HKV.out]; exact HR9.out), HB9⟩, by simp [intOf]; omega⟩
    · obtain rfl : i = m.length := by omega
      have hd : decide ((m.length : Int) < m.length) = false := by simp
      have hKn := keptN_le S m.length
      obtain ⟨K, hK⟩ : ∃ K, (keptL S m.length).length = K := ⟨_, rfl⟩
      rw [hK] at HR hKn
      obtain ⟨a3, cp3, hu5⟩ := row_form HR.out
      subst hu5
      have HT := Lib.hid (T2.start hK HNB.out HR.out HB.out (fun _ => .slice none 0 0))
      have HKK := Lib.hid hK
      clear HNB HR HB hK
      go_wp2
      go_loopw [43] (fun z wr => ∃ (i : Nat) (Vs : Nat → Value), z = .int .i64 i ∧ i ≤ K ∧ Hid (T2 w1 wr m S AV bn K a3 i Vs)) (fun z _ => K - (intOf z).toNat)
      case atStart => exact ⟨0, _, rfl, Nat.zero_le _, HT⟩
      case round =>
        clear HT
        obtain ⟨i, Vs, rfl, hi, HT⟩ := hrel
        by_cases hik : i < K
        · have hd1 : decide ((i : Int) < K) = true := decide_eq_true (by omega)
          have hik2 : (i : Int) < K := by omega
          obtain ⟨wq, rfl⟩ : ∃ wq, wq = wr := ⟨_, rfl⟩
          obtain ⟨bk, cur, ha3, hbk, hcur, hcell⟩ := HT.out.row (by omega)
          subst ha3
          obtain ⟨s, hs⟩ : ∃ s, (keptL S m.length)[i]? = some s := ⟨_, List.getElem?_eq_getElem (by rw [HKK.out]; exact hik)⟩
          have hsm : s < m.length := (keptL_mem.1 (List.mem_of_getElem? hs)).1
          obtain ⟨k1, k2⟩ := hcell i s hs
          rw [if_neg (Nat.lt_irrefl _)] at k2
          obtain ⟨bm, om, hav, hq1, hq2, e4⟩ := HAV.out s hsm
          clear hav hq1 hq2
          obtain ⟨a5, c5, hva⟩ := e4.len
          obtain ⟨N3, hN3⟩ : ∃ N3, wq.heap.size = N3 := ⟨_, rfl⟩
          have hbq : Below w.heap.size w wq := HB1.out.trans (by have := HT.out.bl; rw [← HBN.out] at this; exact this.mono HB1.out.size)
          have HNT := Lib.hid (show ∀ wi, Below N3 wq wi → ∀ d : Nat, d < m.length → wi.cell? ⟨bn, d, none⟩ = some (.int .i64 (keptD S m.length (d : Int))) from fun wi hb d hd => by
            have h1 := (HT.out.below (by rw [hN3]; exact hb)).nb
            refine (cell_of_row wi bn d _ _ _ h1).trans ((slices_at _ hd).trans ?_)
            rw [← numT_all (by omega) (by omega), Int.toNat_natCast])
          have HST := Lib.hid (show ∀ wi u, Below N3 wq wi → wi.ownsRow N3 38 3 u (trimA S m.length m[s].arcs).length (flatA (trimA S m.length m[s].arcs)) → T2 w1 (wi.setCell ⟨bk, i * 2 + 1, none⟩ u) m S AV bn K (some ⟨bk, 0, none⟩) (i + 1) (upd Vs i u) from fun wi u hb hu => HT.out.step (by rw [hN3]; exact hb) rfl hs hsm (by omega) (by rw [hN3]; exact hu))
          have HFZ := Lib.hid (show ∀ wi, Below N3 wq wi → wi.frozen? ⟨bk, i * 2 + 1, none⟩ = false ∧ wi.cell? ⟨bk, i * 2 + 1, none⟩ = some (AV s) from fun wi hb => by
            have h1 := (hb.block bk (by rw [← hN3]; exact lt_of_block hcur)).trans hcur
            exact ⟨frozen_row h1, (cell_of_row wi bk _ _ _ _ h1).trans k2⟩)
          have HA := Lib.hid (show ∀ wi, Below N3 wq wi → ArcsAt wi (AV s) m[s].arcs from fun wi hb => (e4.below hbq).below (by rw [hN3]; exact hb))
          have d0 : wq.cell? ⟨bk, i * 2 + 1, none⟩ = some (AV s) := (cell_of_row wq bk _ _ _ _ hcur).trans k2
          have HFS := Lib.hid (HFIT.out s hsm)
          have hlen := HLL.out s hsm
          have HB0 : Hid (Below N3 wq wq) := Lib.hid (Below.refl _ _)
          clear e4 hcell hcur k1 k2 hbq HT
          generalize m[s].arcs = l at *
          clear hs hsm
          rw [hva] at d0
          simp only [hva] at HFZ HA
          clear hva
          go_wp2
          clear d0
          go_loopw [9, 52] (fun a z wi => ∃ e : Nat, z = .int .i64 e ∧ e ≤ l.length ∧ Hid (wi.ownsRow N3 38 3 a (trimA S m.length (l.take e)).length (flatA (trimA S m.length (l.take e)))) ∧ Hid (Below N3 wq wi)) (fun _ z _ => l.length - (intOf z).toNat)
          case atStart => exact ⟨0, rfl, Nat.zero_le _, Lib.hid (World.ownsRow_nil _ _ _ _), HB0⟩
          case round =>
            clear HB0
            obtain ⟨e, rfl, he, HRW, HBI⟩ := hrel
            by_cases hel : e < l.length
            · have hd2 : decide ((e : Int) < l.length) = true := decide_eq_true (by omega)
              have hel2 : (e : Int) < l.length := by omega
              obtain ⟨g1, u1, ha5, f0, f1, f2⟩ := (HA.out wr HBI.out).at rfl hel
              subst ha5
              obtain ⟨x1, x2, x3⟩ := fits_arc HFS.out hel
              have HSN := Lib.hid (trimA_snoc S m.length hel)
              generalize l[e] = x at *
              obtain ⟨lo, hi', dst⟩ := x
              simp only at f0 f1 f2 x1 x2 x3 HSN
              obtain ⟨d, rfl⟩ : ∃ d : Nat, dst = d := ⟨dst.toNat, by omega⟩
              have hdn : d < m.length := by omega
              obtain ⟨B9, hB9⟩ : ∃ B9, wr.heap.size = B9 := ⟨_, rfl⟩
              have hNB : N3 ≤ B9 := by have h9 := HBI.out.size; omega
              obtain ⟨w5, hw5⟩ : ∃ w5, wr.alloc (.cells #[.int .u8 lo, .int .u8 hi', .int .i64 d] 38) = w5 := ⟨_, rfl⟩
              have hx5 : w5.heap[B9]? = some (.cells #[.int .u8 lo, .int .u8 hi', .int .i64 d] 38 (0, 0)) := by rw [← hw5, ← hB9]; exact heap_alloc_new wr _
              have hb5 : Below wr.heap.size wr w5 := by rw [← hw5]; exact new_one wr _
              have HB5 : Hid (Below N3 wq w5) := Lib.hid (HBI.out.trans (hb5.mono (by rw [hB9]; exact hNB)))
              have c2 : w5.cell? ⟨B9, 2, none⟩ = some (.int .i64 d) := (cell_of_row w5 B9 2 _ _ _ hx5).trans rfl
              have c3 := HNT.out w5 HB5.out d hdn
              have hfz : w5.frozen? ⟨B9, 2, none⟩ = false := frozen_row (j := 2) hx5
              obtain ⟨kd, hkd⟩ : ∃ kd, keptD S m.length (d : Int) = kd := ⟨_, rfl⟩
              rw [hkd] at c3 HSN
              obtain ⟨w6, hw6⟩ : ∃ w6, w5.setCell ⟨B9, 2, none⟩ (.int .i64 kd) = w6 := ⟨_, rfl⟩
              have hx6 : w6.heap[B9]? = some (.cells #[.int .u8 lo, .int .u8 hi', .int .i64 kd] 38 (0, 0)) := by rw [← hw6, setCell_block hx5]; rfl
              have HB6 : Hid (Below N3 wq w6) := Lib.hid (by rw [← hw6]; exact HB5.out.setCell (p := ⟨B9, 2, none⟩) hNB _)
              have HR6 := Lib.hid (show w6.ownsRow N3 38 3 u9 (trimA S m.length (l.take e)).length (flatA (trimA S m.length (l.take e))) from by
                refine row_same HRW.out fun k ek => ?_
                have := (HRW.out.lt k ek).2
                rw [← hw6]
                exact (Below.heap_setCell _ _ _ _ (show k ≠ B9 by omega)).trans (hb5.block k this))
              have g0 : w6.cell? ⟨B9, 0, none⟩ = some (.int .u8 lo) := (cell_of_row w6 B9 0 _ _ _ hx6).trans rfl
              have g1' : w6.cell? ⟨B9, 1, none⟩ = some (.int .u8 hi') := (cell_of_row w6 B9 1 _ _ _ hx6).trans rfl
              have g2 : w6.cell? ⟨B9, 2, none⟩ = some (.int .i64 kd) := (cell_of_row w6 B9 2 _ _ _ hx6).trans rfl
              have hs6 : B9 < w6.heap.size := lt_of_block hx6
              clear hx5 hb5 HRW HBI hx6
              have hdi : (d : Int) < m.length := by omega
              by_cases hk : kd = -1
              · subst hk
                rw [if_pos rfl] at HSN
                go_wp2
                go_roundw
                case rel => exact ⟨e + 1, num_succ e, by omega, by rw [HSN.out]; exact HR6, HB6⟩
                case measure => simp [intOf]; omega
              · have hk2 : (kd == -1) = false := by simp [hk]
                have hk3 : decide (kd = -1) = false := decide_eq_false hk
                rw [if_neg hk] at HSN
                obtain ⟨a9, c9, hu9⟩ := row_form HR6.out
                subst hu9
                have htl : (trimA S m.length (l.take e)).length ≤ e := by
                  unfold trimA
                  refine Nat.le_trans (List.length_filter_le _ _) ?_
                  rw [List.length_map, List.length_take]; omega
                obtain ⟨TL, hTL⟩ : ∃ TL, trimA S m.length (l.take e) = TL := ⟨_, rfl⟩
                rw [hTL] at HR6 HSN htl ⊢
                clear hTL
                have HRA := Lib.hid (HR6.out.alloc (.cells #[.int .u8 lo, .int .u8 hi', .int .i64 kd] 38))
                go_wp2_with (at_builtin; refine wpList_append_lies _ rfl _ _ 39 rfl N3 38 i1 (.agg #[.int .u8 0, .int .u8 0, .int .i64 0]) 3 16 Try.underlying39 HIA.out.1 HIA.out.2.1 HIA.out.2.2.1 HIA.out.2.2.2 rfl (by decide) (.slice a9 TL.length c9) TL.length (flatA TL) rfl HRA.out ⟨w6.heap.size, 0, none⟩ 1 1 [.int .u8 lo, .int .u8 hi', .int .i64 kd] rfl rfl (news_in (cs := #[.int .u8 lo, .int .u8 hi', .int .i64 kd]) (heap_alloc_new w6 _)) (by simp [Value.oneCell']) (by omega) (by unfold maxLen; omega) (by omega) (by simp; omega) (w6.heap.size + 1) (by simp) ?_; intro g2 cap2 w9 h2 h3 h4 h5; have HR9 := Lib.hid h2; have HB9 := Lib.hid (push3 HB6.out HR6.out (Nat.le_refl N3) (by omega) ((Below.refl _ _).alloc (Nat.le_refl _) _) h3); clear h2 h3 h4 h5)
                go_roundw
                case rel => exact ⟨e + 1, num_succ e, by omega, by rw [HSN.out, List.length_append, flatA_snoc]; exact HR9, HB9⟩
                case measure => simp [intOf]; omega
            · obtain rfl : e = l.length := by omega
              have hd2 : decide ((l.length : Int) < l.length) = false := by simp
              rw [List.take_length] at HRW
              obtain ⟨a9, c9, hu9⟩ := row_form HRW.out
              subst hu9
              have HS2 := Lib.hid (HST.out wr _ HBI.out HRW.out)
              obtain ⟨hfz, hcl⟩ := HFZ.out wr HBI.out
              clear HRW HBI
              go_wp2
              go_roundw
              case rel => exact ⟨i + 1, _, num_succ i, by omega, HS2⟩
              case measure => simp [intOf]; omega
        · obtain rfl : i = K := by omega
          have hd1 : decide ((i : Int) < i) = false := by simp
          have HMM := Lib.hid (HT.out.done (c := cp3) HKK.out)
          have hbq : Below w.heap.size w wr := HB1.out.trans (by have := HT.out.bl; rw [← HBN.out] at this; exact this.mono HB1.out.size)
          have HBQ := Lib.hid hbq
          clear HT hbq
          go_wp2
          exact bodyPost_ret (v := .slice a3 i cp3) (by simp [results, Try.results21, go_sem, *]) rfl ⟨_, S, rfl, HMM, HU, HBQ⟩
end Go.Proofs.Ytamgldhnfcikbaa
set_option maxRecDepth 100000
namespace Go.Proofs.Ytamgldhnfcikbaa
open Go.RowKit

end Go.Proofs.Ytamgldhnfcikbaa
set_option maxRecDepth 100000
namespace Go.Proofs.Ytamgldhnfcikbaa
open List (getElem_toArray getElem_cons_succ getElem_cons_zero setIfInBounds_toArray set_cons_zero set_cons_succ)
open Go.RowKit

set_option linter.unusedSimpArgs false in
set_option maxHeartbeats 4000000 in
theorem number_far (bn bc bf gn n B q o cc s : Nat) (C : Nat → Nat) (v : Value) (L : List Nat) (w : World) (h : MK w bn bc bf gn n B q o cc C v L) (hs : s < n) (hC : C s < n) (hn : L.length ≤ 4096) :
    Calls Try.prog 43 #[.int .i64 s, .pointer (some ⟨bn, 0, none⟩), .pointer (some ⟨bc, 0, none⟩), .pointer (some ⟨bf, 0, none⟩)] w fun e w' => e = .returned (.int .i64 (numK C (pushK C L s) s : Nat)) ∧ (∃ v', Hid (MK w' bn bc bf gn n B q o cc C v' (pushK C L s))) ∧ Hid (∀ k, k < w.heap.size → some k ≠ v.ownBlock → k ≠ gn → k ≠ bf → w'.heap[k]? = w.heap[k]?) ∧ Hid (∀ K, K ≤ gn → K ≤ bf → K ≤ B → Below K w w') := by
  have mixed : Try.prog.follows .mixedOrders = true := by kernel_rfl
  have d0 : w.drew.cell? ⟨bn, 0, none⟩ = some (.slice (some ⟨gn, 0, none⟩) n n) := (cell_of_row w.drew bn 0 _ _ _ h.b1).trans rfl
  have d1 : w.drew.cell? ⟨bc, 0, none⟩ = some (.slice (some ⟨q, o, none⟩) n cc) := (cell_of_row w.drew bc 0 _ _ _ h.b2).trans rfl
  have d2 : w.drew.cell? ⟨q, o + s, none⟩ = some (.int .i64 (C s : Nat)) := h.cl s hs
  have hsn : (s : Int) < n := by omega
  have hcn : ((C s : Nat) : Int) < n := by omega
  have HW := Lib.hid h
  have HC := Lib.hid hC
  clear h hs
  obtain ⟨c, hc⟩ : ∃ c, C s = c := ⟨_, rfl⟩
  have HCE := Lib.hid hc
  rw [hc] at d2 hcn hC
  clear hc
  go_enter Try.func43, Try.ntmps43
  go_upto_region 1 with fail
  refine region_goes 6 7 rfl (fun W => W.cell? ⟨bn, 0, none⟩ = some (.slice (some ⟨gn, 0, none⟩) n n) ∧ W.cell? ⟨bc, 0, none⟩ = some (.slice (some ⟨q, o, none⟩) n cc) ∧ W.cell? ⟨q, o + s, none⟩ = some (.int .i64 (c : Nat))) mixed ⟨d0, d1, d2⟩ (fun hHeld => ?_)
  clear d0 d1 d2
  refine goes_take (i := 0) (v := ?gv1) rfl (by kernel_rfl) (by kernel_rfl) (by kernel_rfl) (by kernel_rfl) (fun _ _ _ h => h) (Or.inl ⟨by rfl, ?gy1⟩) (by assumption) ?gr1
  case gy1 => (intro W9 hW9; obtain ⟨k0, k1, k2⟩ := hW9; first | (go_simp; done) | (go_simp; with_reducible rfl))
  simp only [Act.put, getElem_toArray, getElem_cons_succ, getElem_cons_zero, setIfInBounds_toArray, set_cons_zero, set_cons_succ]
  refine goes_take (i := 1) (v := ?gv2) rfl (by kernel_rfl) (by kernel_rfl) (by kernel_rfl) (by kernel_rfl) (fun _ _ _ h => h) (Or.inl ⟨by rfl, ?gy2⟩) (by assumption) ?gr2
  case gy2 => (intro W9 hW9; obtain ⟨k0, k1, k2⟩ := hW9; first | (go_simp; done) | (go_simp; with_reducible rfl))
  simp only [Act.put, getElem_toArray, getElem_cons_succ, getElem_cons_zero, setIfInBounds_toArray, set_cons_zero, set_cons_succ]
  refine goes_take (i := 2) (v := ?gv3) rfl (by kernel_rfl) (by kernel_rfl) (by kernel_rfl) (by kernel_rfl) (fun _ _ _ h => h) (Or.inl ⟨by rfl, ?gy3⟩) (by assumption) ?gr3
  case gy3 => (intro W9 hW9; obtain ⟨k0, k1, k2⟩ := hW9; first | (go_simp; done) | (go_simp; with_reducible rfl))
  simp only [Act.put, getElem_toArray, getElem_cons_succ, getElem_cons_zero, setIfInBounds_toArray, set_cons_zero, set_cons_succ]
  refine goes_take (i := 3) (v := ?gv4) rfl (by kernel_rfl) (by kernel_rfl) (by kernel_rfl) (by kernel_rfl) (fun _ _ _ h => h) (Or.inl ⟨by rfl, ?gy4⟩) (by assumption) ?gr4
  case gy4 => (intro W9 hW9; obtain ⟨k0, k1, k2⟩ := hW9; first | (go_simp; done) | (go_simp; with_reducible rfl))
  simp only [Act.put, getElem_toArray, getElem_cons_succ, getElem_cons_zero, setIfInBounds_toArray, set_cons_zero, set_cons_succ]
  refine goes_take (i := 4) (v := ?gv5) rfl (by kernel_rfl) (by kernel_rfl) (by kernel_rfl) (by kernel_rfl) (fun _ _ _ h => h) (Or.inl ⟨by rfl, ?gy5⟩) (by assumption) ?gr5
  case gy5 => (intro W9 hW9; obtain ⟨k0, k1, k2⟩ := hW9; first | (go_simp; done) | (go_simp; with_reducible rfl))
  simp only [Act.put, getElem_toArray, getElem_cons_succ, getElem_cons_zero, setIfInBounds_toArray, set_cons_zero, set_cons_succ]
  refine goes_take (i := 5) (v := ?gv6) rfl (by kernel_rfl) (by kernel_rfl) (by kernel_rfl) (by kernel_rfl) (fun _ _ _ h => h) (Or.inl ⟨by rfl, ?gy6⟩) (by assumption) ?gr6
  case gy6 => (intro W9 hW9; obtain ⟨k0, k1, k2⟩ := hW9; first | (go_simp; done) | (go_simp; with_reducible rfl))
  simp only [Act.put, getElem_toArray, getElem_cons_succ, getElem_cons_zero, setIfInBounds_toArray, set_cons_zero, set_cons_succ]
  refine goes_one (i := 6) (by kernel_rfl) rfl (fun K9 hK9 => ?_)
  go_simp
  refine hK9.out _ _ (fun h => absurd rfl h) (fun _ => ?_)
  clear hK9 K9 hHeld
  refine goes_done (by kernel_rfl) ?_ _
  have c4 : w.drew.cell? ⟨gn, c, none⟩ = some (.int .i64 (numF C L c)) := (cell_of_row w.drew gn c _ _ _ HW.out.nb).trans (slices_at _ hC)
  obtain ⟨f1, f2, f3, f4, f5, f6⟩ := HW.out.far
  obtain ⟨n1, n2, n3, n4, n5, n6, n7⟩ := HW.out.ne
  by_cases hm : c ∈ L.map C
  · have hm2 : C s ∈ L.map C := by rw [HCE.out]; exact hm
    have hx : numF C L c = (numK C L s : Nat) := by rw [← HCE.out]; exact numF_old hm2
    rw [hx] at c4
    have HP := Lib.hid (pushK_old hm2)
    obtain ⟨x, hxx⟩ : ∃ x, numK C L s = x := ⟨_, rfl⟩
    have HX := Lib.hid hxx
    rw [hxx] at c4
    have hd : decide ((x : Int) = -1) = false := decide_eq_false (by omega)
    have hd2 : ((x : Int) == -1) = false := by simp
    clear hx hxx hm hm2
    go_wp2
    exact bodyPost_ret (v := .int .i64 (x : Nat)) (by simp [results, Try.results43, go_sem, *]) rfl ⟨by rw [HP.out, HX.out], ⟨v, by rw [HP.out]; exact Lib.hid (HW.out.keep (w' := w.drew) (Nat.le_refl _) fun k _ => rfl)⟩, Lib.hid fun k _ _ _ _ => rfl, Lib.hid fun K _ _ _ => (Below.refl K w).drew⟩
  · have hm2 : C s ∉ L.map C := by rw [HCE.out]; exact hm
    have hx : numF C L c = -1 := numF_none hm
    rw [hx] at c4
    have HP := Lib.hid (pushK_new hm2)
    have HNK := Lib.hid (show numK C (pushK C L s) s = L.length by rw [pushK_new hm2, numK_new hm2])
    have HNF := Lib.hid (show numF C (L ++ [s]) c = (L.length : Nat) by rw [← HCE.out]; exact numF_new hm2)
    obtain ⟨a3, c3, rfl⟩ := row_form HW.out.rf
    have fz4 : w.drew.frozen? ⟨gn, c, none⟩ = false := frozen_row (j := c) HW.out.nb
    have d3 : w.drew.cell? ⟨bf, 0, none⟩ = some (.slice a3 L.length c3) := (cell_of_row w.drew bf 0 _ _ _ HW.out.b3).trans rfl
    obtain ⟨w1, hw1⟩ : ∃ w1, w.drew.setCell ⟨gn, c, none⟩ (.int .i64 (L.length : Nat)) = w1 := ⟨_, rfl⟩
    have hk1 : ∀ k, k ≠ gn → w1.heap[k]? = w.heap[k]? := fun k hk => by rw [← hw1]; exact Below.heap_setCell _ _ _ _ hk
    have hs1 : w1.heap.size = w.heap.size := by rw [← hw1]; show (w.drew.setCell _ _).heap.size = w.drew.heap.size; simp
    have hg1 : w1.heap[gn]? = some (.cells ((Slices n fun c => .int .i64 (numF C L c)).setIfInBounds c (.int .i64 (L.length : Nat))) 3 (0, 0)) := by rw [← hw1]; exact setCell_block (w := w.drew) HW.out.nb _
    have d5 : w1.cell? ⟨bf, 0, none⟩ = some (.slice a3 L.length c3) := (cell_of_row w1 bf 0 _ _ _ ((hk1 bf (fun e => n7 e.symm)).trans HW.out.b3)).trans rfl
    obtain ⟨w2, hw2⟩ : ∃ w2, w1.alloc (.cells #[.int .i64 (s : Int)] 3) = w2 := ⟨_, rfl⟩
    have hb2 : Below w1.heap.size w1 w2 := by rw [← hw2]; exact new_one w1 _
    have hx2 : w2.heap[w1.heap.size]? = some (.cells #[.int .i64 (s : Int)] 3 (0, 0)) := by rw [← hw2]; exact heap_alloc_new w1 _
    have hs2 : w2.heap.size = w1.heap.size + 1 := by rw [← hw2]; simp
    rw [hs1] at hx2 hs2
    have HRW := Lib.hid HW.out.rf
    have HR1 : Hid (w1.ownsRow B 3 1 (.slice a3 L.length c3) L.length (plcL L)) := Lib.hid (row_same HRW.out fun k e => hk1 k (by have := (HRW.out.lt k e).1; omega))
    have HR2 : Hid (w2.ownsRow B 3 1 (.slice a3 L.length c3) L.length (plcL L)) := Lib.hid (row_same HR1.out fun k e => hb2.block k (HR1.out.lt k e).2)
    have HK2 : Hid (∀ k, k < w.heap.size → k ≠ gn → w2.heap[k]? = w.heap[k]?) := Lib.hid fun k hk hne => (hb2.block k (by omega)).trans (hk1 k hne)
    have HG2 : Hid (w2.heap[gn]? = some (.cells ((Slices n fun c => .int .i64 (numF C L c)).setIfInBounds c (.int .i64 (L.length : Nat))) 3 (0, 0))) := Lib.hid ((hb2.block gn (by omega)).trans hg1)
    have HB2 : Hid (w2.heap[bf]? = some (.cells #[.slice a3 L.length c3] 44 (0, 0))) := Lib.hid ((HK2.out bf (by omega) (fun e => n7 e.symm)).trans HW.out.b3)
    have HBK2 : Hid (∀ K, K ≤ gn → Below K w w2) := Lib.hid fun K hK => (show Below K w w1 by rw [← hw1]; exact (Below.refl K w).drew.setCell (p := ⟨gn, c, none⟩) hK _).trans (hb2.mono (by omega))
    have hn8 : (L.length + 1) * 8 ≤ 140737488355328 := by omega
    have hnm : L.length + 1 ≤ maxLen := by unfold maxLen; omega
    have hB2 : B ≤ w2.heap.size := by omega
    have hbf2 : bf < w2.heap.size := by omega
    have HOW : Hid (∀ k, k < B → some k ≠ (Value.slice a3 L.length c3).ownBlock) := Lib.hid fun k hk e => by have := (HRW.out.lt k e.symm).1; omega
    have hd : decide ((-1 : Int) = -1) = true := by simp
    obtain ⟨i0, hi0, hz0, hz1, hz2⟩ := info_parts infoI
    have HI := Lib.hid (And.intro hi0 (And.intro hz0 (And.intro hz1 hz2)))
    have HS2 := Lib.hid hs2
    have HS1 := Lib.hid hs1
    clear hi0 hz0 hz1 hz2 hx hm hm2 hk1 hg1 hb2
    go_upto_region 5 with (at_builtin; refine wpList_append_lies _ rfl _ _ 44 rfl B 3 i0 (.int .i64 0) 1 8 Try.underlying44 HI.out.1 HI.out.2.1 HI.out.2.2.1 HI.out.2.2.2 rfl (by decide) (.slice a3 L.length c3) L.length (plcL L) rfl HR2.out ⟨w.heap.size, 0, none⟩ 1 1 [.int .i64 (s : Int)] rfl rfl (one_newsI hx2) (by simp [Value.oneCell']) (by decide) hnm hn8 hB2 (w.heap.size + 1) hs2 ?_; intro g9 cap2 w8 h2 h3 h4 h5; have HP2 := Lib.hid h2; have HP3 := Lib.hid h3; have HP4 := Lib.hid h4; have d8 : w8.cell? ⟨bf, 0, none⟩ = some (.slice a3 L.length c3) := (cell_of_row w8 bf 0 _ _ _ ((h3.block bf hbf2 (HOW.out bf f3)).trans HB2.out)).trans rfl; have hfz : w8.frozen? ⟨bf, 0, none⟩ = false := frozen_row (j := 0) ((h3.block bf hbf2 (HOW.out bf f3)).trans HB2.out); clear h2 h3 h4 h5)
    have hg8 : w8.heap[gn]? = some (.cells ((Slices n fun c => .int .i64 (numF C L c)).setIfInBounds c (.int .i64 (L.length : Nat))) 3 (0, 0)) := (HP3.out.block gn (by omega) (HOW.out gn f4)).trans HG2.out
    have hset : (Slices n fun x => .int .i64 (numF C L x)).setIfInBounds c (.int .i64 (L.length : Nat)) = Slices n fun x => .int .i64 (numF C (L ++ [s]) x) := slices_set (by rw [HNF.out]) fun x _ hne => by rw [numF_else (by rw [HCE.out]; exact hne)]
    rw [hset] at hg8
    obtain ⟨w9, hw9⟩ : ∃ w9, w8.setCell ⟨bf, 0, none⟩ (.slice (some ⟨g9, 0, none⟩) (L.length + 1) cap2) = w9 := ⟨_, rfl⟩
    have hk9 : ∀ k, k ≠ bf → w9.heap[k]? = w8.heap[k]? := fun k hk => by rw [← hw9]; exact Below.heap_setCell _ _ _ _ hk
    have hg9 := (hk9 gn n7).trans hg8
    have c9 : w9.cell? ⟨gn, c, none⟩ = some (.int .i64 (L.length : Nat)) := (cell_of_row w9 gn c _ _ _ hg9).trans ((slices_at _ hC).trans (by rw [HNF.out]))
    have hbf9 : w9.heap[bf]? = some (.cells #[.slice (some ⟨g9, 0, none⟩) (L.length + 1) cap2] 44 (0, 0)) := by
      rw [← hw9, setCell_block ((HP3.out.block bf hbf2 (HOW.out bf f3)).trans HB2.out)]; rfl
    have hs9 : w9.heap.size = w8.heap.size := by rw [← hw9]; simp
    have hs8 := HP3.out.size
    have hKF : ∀ k, k < w.heap.size → some k ≠ (Value.slice a3 L.length c3).ownBlock → k ≠ gn → k ≠ bf → w9.heap[k]? = w.heap[k]? := fun k h1 h2 h3 h4 => (hk9 k h4).trans ((HP3.out.block k (by have := HS2.out; have := HS1.out; omega) h2).trans (HK2.out k h1 h3))
    have hKK : ∀ k, k < w.heap.size → k < B → k ≠ gn → k ≠ bf → w9.heap[k]? = w.heap[k]? := fun k h1 h2 h3 h4 => hKF k h1 (HOW.out k h2) h3 h4
    have HMK : Hid (MK w9 bn bc bf gn n B q o cc C (.slice (some ⟨g9, 0, none⟩) (L.length + 1) cap2) (L ++ [s])) := Lib.hid (by
      refine ⟨(hKK bn (by omega) f1 n1 n2).trans HW.out.b1, (hKK bc (by omega) f2 n3 n4).trans HW.out.b2, hbf9, hg9, fun i hi => (World.cell?_of_block (hKK q (by omega) f5 n5 n6)).trans (HW.out.cl i hi), ?_, ⟨f1, f2, f3, f4, f5, by omega⟩, ⟨n1, n2, n3, n4, n5, n6, n7⟩⟩
      have h2 := HP2.out
      rw [List.length_append, List.length_singleton]
      rw [show plcL (L ++ [s]) = plcL L ++ [.int .i64 (s : Int)] by unfold plcL; rw [List.map_append]; rfl]
      exact row_same h2 fun k e => hk9 k (by have := (h2.lt k e).1; omega))
    have HKK := Lib.hid hKF
    have HBK : Hid (∀ K, K ≤ gn → K ≤ bf → K ≤ B → Below K w w9) := Lib.hid fun K k1 k2 k3 => by
      rw [← hw9]
      exact ((HBK2.out K k1).grown HP3.out (by omega) (fun k hk => by have := (HR2.out.lt k hk).1; omega)).setCell (p := ⟨bf, 0, none⟩) k2 _
    have HNK2 := HNK
    clear hset hg8 hk9 hg9 hbf9 hKK hKF d8 hfz hs9 hs8 HP2 HP3 HP4
    go_wp2
    exact bodyPost_ret (v := .int .i64 (L.length : Nat)) (by simp [results, Try.results43, go_sem, *]) rfl ⟨by rw [HNK2.out], ⟨_, by rw [HP.out]; exact HMK⟩, HKK, HBK⟩
theorem own_below {w w' : World} {B n sz : Nat} {e : TypeId} {v : Value} {l : List Value} (h : w.ownsRow B e sz v n l) (hb : Below w.heap.size w w') : w'.ownsRow B e sz v n l :=
  row_keep h fun g _ _ hg => (hb.block g (lt_of_block hg)).trans hg
def flatM (vs : List (Nat × Value)) : List Value := vs.flatMap fun p => [.int .u64 (p.1 : Nat), p.2]
theorem flatM_snoc (vs : List (Nat × Value)) (p : Nat × Value) : flatM (vs ++ [p]) = flatM vs ++ [.int .u64 (p.1 : Nat), p.2] := by simp [flatM]
theorem flatM_at (vs : List (Nat × Value)) : ∀ i (h : i < vs.length) j, j < 2 → (flatM vs)[i * 2 + j]? = [Value.int .u64 (vs[i].1 : Nat), vs[i].2][j]? := by
  induction vs with
  | nil => intro i h; simp at h
  | cons q l ih =>
    intro i h j hj
    have e : flatM (q :: l) = [.int .u64 (q.1 : Nat), q.2] ++ flatM l := rfl
    rw [e]
    cases i with
    | zero => rw [List.getElem?_append_left (by simpa using hj)]; simp
    | succ i =>
      rw [List.getElem?_append_right (by simp; omega)]
      have := ih i (by simpa using h) j hj
      rw [show (i + 1) * 2 + j - [Value.int .u64 (q.1 : Nat), q.2].length = i * 2 + j from by simp; omega, this]
      simp
structure RowsM (w : World) (N : Nat) (v : Value) (vs : List (Nat × Value)) (M : List Sta) : Prop where
  len : vs.length = M.length
  own : w.ownsRow N 42 2 v M.length (flatM vs)
  acc : ∀ i (h : i < vs.length) (h' : i < M.length), vs[i].1 = M[i].acc
  row : ∀ i (h : i < vs.length) (h' : i < M.length), w.ownsRow N 38 3 vs[i].2 M[i].arcs.length (flatA M[i].arcs)
theorem RowsM.below {w w' : World} {N : Nat} {v : Value} {vs : List (Nat × Value)} {M : List Sta} (h : RowsM w N v vs M) (hb : Below w.heap.size w w') : RowsM w' N v vs M :=
  ⟨h.len, own_below h.own hb, h.acc, fun i h1 h2 => own_below (h.row i h1 h2) hb⟩
theorem RowsM.nil (w : World) (N : Nat) : RowsM w N (.slice none 0 0) [] [] := ⟨rfl, World.ownsRow_nil _ _ _ _, fun i h => by simp at h, fun i h => by simp at h⟩
theorem arc_grown {w w7 w8 : World} {N n sz : Nat} {v u : Value} {xs : List Value} {l : List Arc3} (h : w.ownsRow N 38 3 u l.length (flatA l)) (hv : w.ownsRow N 42 sz v n xs) (h7 : Below w.heap.size w w7) (h3 : w7.grownBy w8 v.ownBlock) : w8.ownsRow N 38 3 u l.length (flatA l) :=
  row_keep h fun g cs hg hgc => by
    have hne : some g ≠ v.ownBlock := fun e => by
      obtain ⟨c2, h2⟩ := row_block hv e.symm
      rw [hgc] at h2
      injection h2 with h2
      injection h2 with _ h2 _
      exact absurd h2 (by decide)
    have h1 := (h7.block g (lt_of_block hgc)).trans hgc
    exact (h3.block g (lt_of_block h1) hne).trans h1
theorem RowsM.push {w w7 w8 : World} {N : Nat} {v u u' : Value} {vs : List (Nat × Value)} {M : List Sta} {s : Sta} (h : RowsM w N v vs M) (hu : w.ownsRow N 38 3 u s.arcs.length (flatA s.arcs)) (h7 : Below w.heap.size w w7) (h3 : w7.grownBy w8 v.ownBlock) (h2 : w8.ownsRow N 42 2 u' (M.length + 1) (flatM vs ++ [.int .u64 (s.acc : Nat), u])) : RowsM w8 N u' (vs ++ [(s.acc, u)]) (M ++ [s]) := by
  refine ⟨by simp [h.len], by rw [List.length_append, List.length_singleton, flatM_snoc]; exact h2, fun i h1 h1' => ?_, fun i h1 h1' => ?_⟩
  · by_cases e : i < vs.length
    · simp only [List.getElem_append_left e, List.getElem_append_left (show i < M.length by rw [← h.len]; exact e)]
      exact h.acc i e (by rw [← h.len]; exact e)
    · obtain rfl : i = vs.length := by simp at h1; omega
      have e2 : (vs ++ [(s.acc, u)])[vs.length] = (s.acc, u) := by simp
      have e3 : (M ++ [s])[vs.length] = s := by simp [h.len]
      rw [e2, e3]
  · by_cases e : i < vs.length
    · simp only [List.getElem_append_left e, List.getElem_append_left (show i < M.length by rw [← h.len]; exact e)]
      exact arc_grown (h.row i e (by rw [← h.len]; exact e)) h.own h7 h3
    · obtain rfl : i = vs.length := by simp at h1; omega
      have e2 : (vs ++ [(s.acc, u)])[vs.length] = (s.acc, u) := by simp
      have e3 : (M ++ [s])[vs.length] = s := by simp [h.len]
      rw [e2, e3]
      exact arc_grown hu h.own h7 h3
theorem RowsM.mach {w : World} {N : Nat} {v : Value} {vs : List (Nat × Value)} {M : List Sta} (h : RowsM w N v vs M) : MachAt w v M := by
  have h0 := h.own
  rcases h0.2 with ⟨rfl, h1⟩ | ⟨g, cap, cur, rfl, _⟩
  · have : M = [] := List.eq_nil_of_length_eq_zero h1
    subst this; exact MachAt.nil w
  · refine ⟨_, cap, rfl, fun i hi => ?_⟩
    have hv : i < vs.length := by rw [h.len]; exact hi
    refine ⟨g, 0, vs[i].2, rfl, ?_, ?_, arcs_of_row (h.row i hv hi)⟩
    · rw [Nat.zero_add]
      have := h0.cellAt (i * 2) (by omega)
      rw [this]
      have := flatM_at vs i hv 0 (by omega)
      rw [Nat.add_zero] at this
      rw [this, h.acc i hv hi]; rfl
    · rw [Nat.zero_add, h0.cellAt (i * 2 + 1) (by omega), flatM_at vs i hv 1 (by omega)]; rfl
end Go.Proofs.Ytamgldhnfcikbaa
set_option maxRecDepth 100000
namespace Go.Proofs.Ytamgldhnfcikbaa

def gK (next : Nat → Nat → Option Nat) (key : Nat → Nat) (L : List Nat) (s : Nat) : Nat → Int := fun b => match next s b with
  | none => -1
  | some y => (numK key L y : Nat)
def leastP (acc : Nat → Nat) (next : Nat → Nat → Option Nat) (key : Nat → Nat) (L W : List Nat) : List Sta := W.map fun s => ⟨acc s, arcsS (gK next key L s)⟩
theorem leastP_all (acc : Nat → Nat) (next : Nat → Nat → Option Nat) (key : Nat → Nat) (L : List Nat) : leastP acc next key L L = leastK acc next key L := rfl
theorem rowK_some {next : Nat → Nat → Option Nat} {key : Nat → Nat} {L : List Nat} {s b y : Nat} (h : next s b = some y) : rowK next key L s (b + 1) = pushK key (rowK next key L s b) y := by rw [rowK, h]
theorem rowK_no {next : Nat → Nat → Option Nat} {key : Nat → Nat} {L : List Nat} {s b : Nat} (h : next s b = none) : rowK next key L s (b + 1) = rowK next key L s b := by rw [rowK, h]
theorem rowK_more (next : Nat → Nat → Option Nat) (key : Nat → Nat) (L : List Nat) (s b : Nat) : ∀ j, ∃ M, rowK next key L s (b + j) = rowK next key L s b ++ M
  | 0 => ⟨[], by rw [List.append_nil]; rfl⟩
  | j + 1 => by
    obtain ⟨M, hM⟩ := rowK_more next key L s b j
    cases h : next s (b + j) with
    | none => exact ⟨M, by rw [show b + (j + 1) = b + j + 1 by omega, rowK_no h, hM]⟩
    | some y =>
      obtain ⟨M2, hM2⟩ := pushK_ext key (rowK next key L s (b + j)) y
      exact ⟨M ++ M2, by rw [show b + (j + 1) = b + j + 1 by omega, rowK_some h, hM2, hM, List.append_assoc]⟩
theorem pushK_has (key : Nat → Nat) (L : List Nat) (y : Nat) : key y ∈ (pushK key L y).map key := by
  by_cases h : key y ∈ L.map key
  · rw [pushK_old h]; exact h
  · rw [pushK_new h]; simp
theorem gK_row {next : Nat → Nat → Option Nat} {key : Nat → Nat} {L : List Nat} {s b y : Nat} (h : next s b = some y) (hb : b < 256) : gK next key (rowK next key L s 256) s b = (numK key (pushK key (rowK next key L s b) y) y : Nat) := by
  obtain ⟨M, hM⟩ := rowK_more next key L s (b + 1) (255 - b)
  rw [show b + 1 + (255 - b) = 256 by omega, rowK_some h] at hM
  unfold gK
  rw [h, hM]
  show ((numK key _ y : Nat) : Int) = _
  rw [numK_ext M (pushK_has key _ y)]
theorem gK_none {next : Nat → Nat → Option Nat} {key : Nat → Nat} {L : List Nat} {s b : Nat} (h : next s b = none) : gK next key L s b = -1 := by unfold gK; rw [h]
theorem walkK_at {next : Nat → Nat → Option Nat} {key : Nat → Nat} {s0 k s : Nat} (h : (walkK next key s0 k)[k]? = some s) : walkK next key s0 (k + 1) = rowK next key (walkK next key s0 k) s 256 := by rw [walkK, h]
theorem leastP_step {acc : Nat → Nat} {next : Nat → Nat → Option Nat} {key : Nat → Nat} {s0 k s : Nat} (hs : (walkK next key s0 k)[k]? = some s) :
    leastP acc next key (walkK next key s0 (k + 1)) ((walkK next key s0 (k + 1)).take (k + 1)) = leastP acc next key (walkK next key s0 k) ((walkK next key s0 k).take k) ++ [⟨acc s, arcsS (gK next key (rowK next key (walkK next key s0 k) s 256) s)⟩] := by
  obtain ⟨M, hM⟩ := walkK_step (next := next) (key := key) (s0 := s0) k
  have hk : k < (walkK next key s0 k).length := (List.getElem?_eq_some_iff.1 hs).1
  have ht : (walkK next key s0 (k + 1)).take (k + 1) = (walkK next key s0 k).take k ++ [s] := by
    rw [hM, List.take_append_of_le_length (by omega), List.take_add_one, hs]; rfl
  rw [ht]
  unfold leastP
  rw [List.map_append, ← walkK_at hs]
  congr 1
  refine List.map_congr_left fun x hx => ?_
  obtain ⟨j, hj, hxj⟩ := List.getElem_of_mem hx
  rw [List.length_take] at hj
  rw [List.getElem_take] at hxj
  have hxj2 : (walkK next key s0 k)[j]? = some x := by rw [← hxj]; exact List.getElem?_eq_getElem _
  congr 1
  refine arcsS_congr fun b hb => ?_
  unfold gK
  cases hn : next x b with
  | none => rfl
  | some y =>
    have := walkK_mem (next := next) (key := key) (s0 := s0) k j x (by omega) hxj2 (by omega) b hb y hn
    show ((numK key _ y : Nat) : Int) = ((numK key _ y : Nat) : Int)
    rw [hM, numK_ext M this]
theorem pushK_lt {key : Nat → Nat} {L : List Nat} {y n : Nat} (hL : ∀ x ∈ L, x < n) (hy : y < n) : ∀ x ∈ pushK key L y, x < n := by
  intro x hx
  unfold pushK at hx
  split at hx
  · exact hL x hx
  · rcases List.mem_append.1 hx with h | h
    · exact hL x h
    · rw [List.mem_singleton] at h; omega
theorem rowK_lt {next : Nat → Nat → Option Nat} {key : Nat → Nat} {L : List Nat} {s n : Nat} (hL : ∀ x ∈ L, x < n) (hn : ∀ b y, b < 256 → next s b = some y → y < n) : ∀ b, b ≤ 256 → ∀ x ∈ rowK next key L s b, x < n
  | 0, _ => hL
  | b + 1, hb => by
    cases h : next s b with
    | none => rw [rowK_no h]; exact rowK_lt hL hn b (by omega)
    | some y => rw [rowK_some h]; exact pushK_lt (rowK_lt hL hn b (by omega)) (hn b y (by omega) h)
theorem walkK_lt {next : Nat → Nat → Option Nat} {key : Nat → Nat} {s0 n : Nat} (h0 : s0 < n) (hn : ∀ s b y, s < n → b < 256 → next s b = some y → y < n) : ∀ k, ∀ x ∈ walkK next key s0 k, x < n
  | 0 => fun x hx => by rw [walkK, List.mem_singleton] at hx; omega
  | k + 1 => by
    have ih := walkK_lt (key := key) h0 hn k
    cases h : (walkK next key s0 k)[k]? with
    | none => rw [walkK, h]; exact ih
    | some s => rw [walkK_at h]; exact rowK_lt ih (hn s · · (ih s (List.mem_of_getElem? h))) 256 (Nat.le_refl _)
theorem keys_len {key : Nat → Nat} {L : List Nat} {n : Nat} (hd : (L.map key).Nodup) (hL : ∀ x ∈ L, x < n) (hk : ∀ x, x < n → key x < n) : L.length ≤ n := by
  have := nodup_nat_le n (L.map key) hd fun y hy => by
    obtain ⟨x, hx, rfl⟩ := List.mem_map.1 hy
    exact hk x (hL x hx)
  rwa [List.length_map] at this
end Go.Proofs.Ytamgldhnfcikbaa
