/- Texts that a proof rests on: Contracts of the builder: one step by bytes more. | Contracts of the builder: what is built behind a state, and in a loop, for what its pattern's contract is. -/
import Derived.Test.YtpfhhdiipedklaaDoorK11
import Derived.Test.YtpfhhdiipedklaaDoorK12
set_option maxRecDepth 100000
namespace Go.Proofs.YtpfhhdiipedklaaDoor
open Go.RowKit

set_option linter.unusedSimpArgs false in
set_option maxHeartbeats 4000000 in
theorem arc_any (w0 : World) (bb bv mb : Nat) (m : Mach) (x y : Nat) (c : BitVec 256) (w : World) (h : St w0 bb bv mb m w) (hb : m.a.length < 100000) :
    Calls Tryd.prog 47 #[ptr bb, .int .i64 x, .int .i64 y, (.agg #[.int .u64 (wd (c) 0), .int .u64 (wd (c) 1), .int .u64 (wd (c) 2), .int .u64 (wd (c) 3)])] w fun e w' => e = .returned (.tuple #[]) ∧ Hid (St w0 bb bv mb (m.arc x y c) w') ∧ Hid (Keep w w') := by
  obtain ⟨ve, va, hS⟩ := h
  obtain ⟨i0, hi0, hz0, hz1, hz2⟩ := info_parts infoArc
  have HI := Lib.hid (And.intro hi0 (And.intro hz0 (And.intro hz1 hz2)))
  obtain ⟨N, hN⟩ : ∃ N, w.heap.size = N := ⟨_, rfl⟩
  obtain ⟨w1, hw1⟩ : ∃ w1, w1 = w.alloc (.cells #[.int .u64 (wd c 0), .int .u64 (wd c 1), .int .u64 (wd c 2), .int .u64 (wd c 3)] 33) := ⟨_, rfl⟩
  have hb1 : Below w.heap.size w w1 := by rw [hw1]; exact new_one w _
  have hs1 : w1.heap.size = N + 1 := by rw [hw1]; simp [hN]
  have hbx : w1.heap[N]? = some (.cells #[.int .u64 (wd c 0), .int .u64 (wd c 1), .int .u64 (wd c 2), .int .u64 (wd c 3)] 33 (0, 0)) := by rw [hw1, ← hN]; exact heap_alloc_new w _
  have hS1 := hS.next hb1
  obtain ⟨_, _, c2, _, _⟩ := hS1.cells
  have HS := Lib.hid hS1
  have HKP := Lib.hid (Keep.below hb1)
  have HW := Lib.hid hw1
  have HBX := Lib.hid hbx
  have hlo := hS1.below.size
  obtain ⟨B, hB⟩ : ∃ B, w0.heap.size = B := ⟨_, rfl⟩
  have e0 : w1.drew.cell? ⟨bb, 2, none⟩ = some va := c2
  have e1 : w1.drew.cell? ⟨N, 0, none⟩ = some (.int .u64 (wd c 0)) := (cell_of_row _ _ 0 _ _ _ hbx).trans rfl
  have e2 : w1.drew.cell? ⟨N, 1, none⟩ = some (.int .u64 (wd c 1)) := (cell_of_row _ _ 1 _ _ _ hbx).trans rfl
  have e3 : w1.drew.cell? ⟨N, 2, none⟩ = some (.int .u64 (wd c 2)) := (cell_of_row _ _ 2 _ _ _ hbx).trans rfl
  have e4 : w1.drew.cell? ⟨N, 3, none⟩ = some (.int .u64 (wd c 3)) := (cell_of_row _ _ 3 _ _ _ hbx).trans rfl
  have HRA := Lib.hid (row_keep (w' := w1.drew.alloc (.cells #[.int .i64 x, .int .i64 y, .int .u64 (wd c 0), .int .u64 (wd c 1), .int .u64 (wd c 2), .int .u64 (wd c 3)] 78)) hS1.ra fun g cs _ h1 => (heap_alloc_old w1.drew _ (lt_of_block h1)).trans h1)
  rw [hB] at HRA hlo
  have mixed : Tryd.prog.follows .mixedOrders = true := by kernel_rfl
  clear hS hS1 hi0 hz0 hz1 hz2 hb1 hbx hw1 c2
  go_enter Tryd.func47, Tryd.ntmps47
  go_wp2
  rw [← HW.out]
  refine region_goes 15 16 rfl (fun W => W.cell? ⟨bb, 2, none⟩ = some va ∧ W.cell? ⟨N, 0, none⟩ = some (.int .u64 (wd c 0)) ∧ W.cell? ⟨N, 1, none⟩ = some (.int .u64 (wd c 1)) ∧ W.cell? ⟨N, 2, none⟩ = some (.int .u64 (wd c 2)) ∧ W.cell? ⟨N, 3, none⟩ = some (.int .u64 (wd c 3))) mixed ⟨e0, e1, e2, e3, e4⟩ (fun hHeld => ?_)
  refine goes_take (i := 0) (v := ?gv1) rfl (by kernel_rfl) (by kernel_rfl) (by kernel_rfl) (by kernel_rfl) (fun _ _ _ h => h) (Or.inl ⟨by rfl, ?gy1⟩) (by assumption) ?gr1
  case gy1 => (intro W9 hW9; obtain ⟨k0, k1, k2, k3, k4⟩ := hW9; first | (go_simp; done) | (go_simp; with_reducible rfl))
  simp only [Act.put, List.getElem_toArray, List.getElem_cons_succ, List.getElem_cons_zero, List.setIfInBounds_toArray, List.set_cons_zero, List.set_cons_succ]
  refine goes_take (i := 1) (v := ?gv2) rfl (by kernel_rfl) (by kernel_rfl) (by kernel_rfl) (by kernel_rfl) (fun _ _ _ h => h) (Or.inl ⟨by rfl, ?gy2⟩) (by assumption) ?gr2
  case gy2 => (intro W9 hW9; obtain ⟨k0, k1, k2, k3, k4⟩ := hW9; first | (go_simp; done) | (go_simp; with_reducible rfl))
  simp only [Act.put, List.getElem_toArray, List.getElem_cons_succ, List.getElem_cons_zero, List.setIfInBounds_toArray, List.set_cons_zero, List.set_cons_succ]
  refine goes_take (i := 2) (v := ?gv3) rfl (by kernel_rfl) (by kernel_rfl) (by kernel_rfl) (by kernel_rfl) (fun _ _ _ h => h) (Or.inl ⟨by rfl, ?gy3⟩) (by assumption) ?gr3
  case gy3 => (intro W9 hW9; obtain ⟨k0, k1, k2, k3, k4⟩ := hW9; first | (go_simp; done) | (go_simp; with_reducible rfl))
  simp only [Act.put, List.getElem_toArray, List.getElem_cons_succ, List.getElem_cons_zero, List.setIfInBounds_toArray, List.set_cons_zero, List.set_cons_succ]
  refine goes_take (i := 3) (v := ?gv4) rfl (by kernel_rfl) (by kernel_rfl) (by kernel_rfl) (by kernel_rfl) (fun _ _ _ h => h) (Or.inl ⟨by rfl, ?gy4⟩) (by assumption) ?gr4
  case gy4 => (intro W9 hW9; obtain ⟨k0, k1, k2, k3, k4⟩ := hW9; first | (go_simp; done) | (go_simp; with_reducible rfl))
  simp only [Act.put, List.getElem_toArray, List.getElem_cons_succ, List.getElem_cons_zero, List.setIfInBounds_toArray, List.set_cons_zero, List.set_cons_succ]
  refine goes_take (i := 4) (v := ?gv5) rfl (by kernel_rfl) (by kernel_rfl) (by kernel_rfl) (by kernel_rfl) (fun _ _ _ h => h) (Or.inl ⟨by rfl, ?gy5⟩) (by assumption) ?gr5
  case gy5 => (intro W9 hW9; obtain ⟨k0, k1, k2, k3, k4⟩ := hW9; first | (go_simp; done) | (go_simp; with_reducible rfl))
  simp only [Act.put, List.getElem_toArray, List.getElem_cons_succ, List.getElem_cons_zero, List.setIfInBounds_toArray, List.set_cons_zero, List.set_cons_succ]
  refine goes_take (i := 5) (v := ?gv6) rfl (by kernel_rfl) (by kernel_rfl) (by kernel_rfl) (by kernel_rfl) (fun _ _ _ h => h) (Or.inl ⟨by rfl, ?gy6⟩) (by assumption) ?gr6
  case gy6 => (intro W9 hW9; obtain ⟨k0, k1, k2, k3, k4⟩ := hW9; first | (go_simp; done) | (go_simp; with_reducible rfl))
  simp only [Act.put, List.getElem_toArray, List.getElem_cons_succ, List.getElem_cons_zero, List.setIfInBounds_toArray, List.set_cons_zero, List.set_cons_succ]
  refine goes_take (i := 6) (v := ?gv7) rfl (by kernel_rfl) (by kernel_rfl) (by kernel_rfl) (by kernel_rfl) (fun _ _ _ h => h) (Or.inl ⟨by rfl, ?gy7⟩) (by assumption) ?gr7
  case gy7 => (intro W9 hW9; obtain ⟨k0, k1, k2, k3, k4⟩ := hW9; first | (go_simp; done) | (go_simp; with_reducible rfl))
  simp only [Act.put, List.getElem_toArray, List.getElem_cons_succ, List.getElem_cons_zero, List.setIfInBounds_toArray, List.set_cons_zero, List.set_cons_succ]
  refine goes_take (i := 7) (v := ?gv8) rfl (by kernel_rfl) (by kernel_rfl) (by kernel_rfl) (by kernel_rfl) (fun _ _ _ h => h) (Or.inl ⟨by rfl, ?gy8⟩) (by assumption) ?gr8
  case gy8 => (intro W9 hW9; obtain ⟨k0, k1, k2, k3, k4⟩ := hW9; first | (go_simp; done) | (go_simp; with_reducible rfl))
  simp only [Act.put, List.getElem_toArray, List.getElem_cons_succ, List.getElem_cons_zero, List.setIfInBounds_toArray, List.set_cons_zero, List.set_cons_succ]
  refine goes_take (i := 8) (v := ?gv9) rfl (by kernel_rfl) (by kernel_rfl) (by kernel_rfl) (by kernel_rfl) (fun _ _ _ h => h) (Or.inl ⟨by rfl, ?gy9⟩) (by assumption) ?gr9
  case gy9 => (intro W9 hW9; obtain ⟨k0, k1, k2, k3, k4⟩ := hW9; first | (go_simp; done) | (go_simp; with_reducible rfl))
  simp only [Act.put, List.getElem_toArray, List.getElem_cons_succ, List.getElem_cons_zero, List.setIfInBounds_toArray, List.set_cons_zero, List.set_cons_succ]
  refine goes_take (i := 9) (v := ?gv10) rfl (by kernel_rfl) (by kernel_rfl) (by kernel_rfl) (by kernel_rfl) (fun _ _ _ h => h) (Or.inl ⟨by rfl, ?gy10⟩) (by assumption) ?gr10
  case gy10 => (intro W9 hW9; obtain ⟨k0, k1, k2, k3, k4⟩ := hW9; first | (go_simp; done) | (go_simp; with_reducible rfl))
  simp only [Act.put, List.getElem_toArray, List.getElem_cons_succ, List.getElem_cons_zero, List.setIfInBounds_toArray, List.set_cons_zero, List.set_cons_succ]
  refine goes_one (i := 10) (by kernel_rfl) rfl (fun K9 hK9 => ?_)
  go_simp
  have hba := new_one w1.drew (.cells #[.int .i64 x, .int .i64 y, .int .u64 (wd c 0), .int .u64 (wd c 1), .int .u64 (wd c 2), .int .u64 (wd c 3)] 78)
  obtain ⟨k0, k1, k2, k3, k4⟩ := hHeld
  refine hK9.out _ _ (fun _ => ⟨cell_below hba k0, cell_below hba k1, cell_below hba k2, cell_below hba k3, cell_below hba k4⟩) (fun hHeld => ?_)
  have hHeld := hHeld (by decide)
  clear hK9 K9 k0 k1 k2 k3 k4
  refine goes_one (i := 11) (by kernel_rfl) rfl (fun K9 hK9 => ?_)
  rw [if_pos (by rfl)]
  refine wp_append_lies _ _ _ 25 rfl B 78 i0 (.agg #[.int .i64 0, .int .i64 0, .int .u64 0, .int .u64 0, .int .u64 0, .int .u64 0]) 6 48 Tryd.underlying25 HI.out.1 HI.out.2.1 HI.out.2.2.1 HI.out.2.2.2 rfl (by decide) va m.a.length (flA m.a) rfl HRA.out ⟨N + 1, 0, none⟩ 1 1 [.int .i64 x, .int .i64 y, .int .u64 (wd c 0), .int .u64 (wd c 1), .int .u64 (wd c 2), .int .u64 (wd c 3)] rfl rfl (news_in (cs := #[.int .i64 x, .int .i64 y, .int .u64 (wd c 0), .int .u64 (wd c 1), .int .u64 (wd c 2), .int .u64 (wd c 3)]) (by have := heap_alloc_new w1.drew (.cells #[.int .i64 x, .int .i64 y, .int .u64 (wd c 0), .int .u64 (wd c 1), .int .u64 (wd c 2), .int .u64 (wd c 3)] 78); rw [show w1.drew.heap.size = N + 1 from hs1] at this; exact this)) (by simp [Value.oneCell']) (by omega) (by unfold maxLen; omega) (by omega) (by show B ≤ (w1.alloc _).heap.size; simp only [World.size_alloc]; omega) (N + 2) (by show (w1.alloc _).heap.size = N + 2; simp only [World.size_alloc]; omega) ?_
  intro g cap2 w8 h2 h3 h4 h5
  have hnN : va.ownBlock ≠ some N := fun e => by
    obtain ⟨cs, h6⟩ := row_block HS.out.ra e
    rw [HBX.out] at h6; cases h6
  obtain ⟨c8, f8, hst, hkp⟩ := HS.out.push_a (x := x) (y := y) (c := c) ((Below.refl _ w1).drew.trans (new_one w1.drew _)) h3 (by rw [hB]; exact h2) rfl (flA_snoc _ _ _ _).symm
  have hN8 : w8.heap[N]? = some (.cells #[.int .u64 (wd c 0), .int .u64 (wd c 1), .int .u64 (wd c 2), .int .u64 (wd c 3)] 33 (0, 0)) := by
    rw [h3.block N (by show N < (w1.alloc _).heap.size; simp only [World.size_alloc]; omega) (fun e => hnN e.symm)]
    show (w1.alloc _).heap[N]? = _
    rw [heap_alloc_old w1 _ (by omega)]; exact HBX.out
  have HST := Lib.hid (And.intro hst hkp)
  refine hK9.out _ _ (fun _ => ⟨c8, (cell_of_row _ _ 0 _ _ _ hN8).trans rfl, (cell_of_row _ _ 1 _ _ _ hN8).trans rfl, (cell_of_row _ _ 2 _ _ _ hN8).trans rfl, (cell_of_row _ _ 3 _ _ _ hN8).trans rfl⟩) (fun hHeld => ?_)
  have hHeld := hHeld (by decide)
  clear hK9 K9 h2 h3 h4 h5 hst hkp hN8
  refine goes_one (i := 12) (by kernel_rfl) rfl (fun K9 hK9 => ?_)
  go_simp
  refine hK9.out _ _ (fun _ => hHeld) (fun hHeld => ?_)
  have hHeld := hHeld (by decide)
  clear hK9 K9
  refine goes_one (i := 13) (by kernel_rfl) rfl (fun K9 hK9 => ?_)
  go_simp
  refine hK9.out _ _ (fun _ => hHeld) (fun hHeld => ?_)
  have hHeld := hHeld (by decide)
  clear hK9 K9
  refine goes_one (i := 14) (by kernel_rfl) rfl (fun K9 hK9 => ?_)
  go_simp
  refine hK9.out _ _ (fun _ => hHeld) (fun hHeld => ?_)
  have hHeld := hHeld (by decide)
  clear hK9 K9
  refine goes_one (i := 15) (by kernel_rfl) rfl (fun K9 hK9 => ?_)
  go_simp
  refine hK9.out _ _ (fun h => absurd rfl h) (fun _ => ?_)
  clear hK9 K9
  refine goes_done (by kernel_rfl) ?_ _
  go_wp2
  go_end0
  exact ⟨rfl, Lib.hid HST.out.1, Lib.hid (HKP.out.trans HST.out.2)⟩
end Go.Proofs.YtpfhhdiipedklaaDoor
set_option maxRecDepth 100000
namespace Go.Proofs.YtpfhhdiipedklaaDoor
open Go.RowKit

/-- What building gives. -/
def Built (w0 : World) (bb bv mb : Nat) (v : Value) (m : Mach) (w : World) (e : Ending) (w' : World) : Prop := e = .returned v ∧ Hid (St w0 bb bv mb m w') ∧ Hid (Keep w w')
/-- The contract of 'build' at a pattern. -/
def BuildC (w0 : World) (bb bv mb : Nat) (q : Pat) : Prop := ∀ (m : Mach) (c d : Nat) (ks : Value) (w : World), m.n = c → m.n + 1 = d → St w0 bb bv mb m w → Kids w0 q.kids ks → m.e.length ≤ 2 * m.n → m.a.length ≤ m.n → (bld q m).n ≤ 20000 →
  Calls Tryd.prog 26 #[ptr bb, (.agg #[.int .i64 q.op, .int .u64 (wd q.set 0), .int .u64 (wd q.set 1), .int .u64 (wd q.set 2), .int .u64 (wd q.set 3), .int .i64 q.lo, .int .i64 q.hi, ks])] w (Built w0 bb bv mb (.agg #[.int .i64 c, .int .i64 d]) (bld q m) w)
theorem frag_cells {w : World} {g x y : Nat} (h : w.heap[g]? = some (.cells #[.int .i64 x, .int .i64 y] 62 (0, 0))) : w.cell? ⟨g, 0, none⟩ = some (.int .i64 x) ∧ w.cell? ⟨g, 1, none⟩ = some (.int .i64 y) :=
  ⟨(cell_of_row _ _ 0 _ _ _ h).trans rfl, (cell_of_row _ _ 1 _ _ _ h).trans rfl⟩
theorem node_cells {w : World} {b : Nat} {p : Pat} {ks : Value} (h : w.heap[b]? = some (.cells #[.int .i64 p.op, .int .u64 (wd p.set 0), .int .u64 (wd p.set 1), .int .u64 (wd p.set 2), .int .u64 (wd p.set 3), .int .i64 p.lo, .int .i64 p.hi, ks] 36 (0, 0))) : w.cell? ⟨b, 0, none⟩ = some (.int .i64 p.op) ∧ w.cell? ⟨b, 1, none⟩ = some (.int .u64 (wd p.set 0)) ∧ w.cell? ⟨b, 2, none⟩ = some (.int .u64 (wd p.set 1)) ∧ w.cell? ⟨b, 3, none⟩ = some (.int .u64 (wd p.set 2)) ∧ w.cell? ⟨b, 4, none⟩ = some (.int .u64 (wd p.set 3)) ∧ w.cell? ⟨b, 5, none⟩ = some (.int .i64 p.lo) ∧ w.cell? ⟨b, 6, none⟩ = some (.int .i64 p.hi) ∧ w.cell? ⟨b, 7, none⟩ = some ks :=
  ⟨(cell_of_row _ _ 0 _ _ _ h).trans rfl, (cell_of_row _ _ 1 _ _ _ h).trans rfl, (cell_of_row _ _ 2 _ _ _ h).trans rfl, (cell_of_row _ _ 3 _ _ _ h).trans rfl, (cell_of_row _ _ 4 _ _ _ h).trans rfl, (cell_of_row _ _ 5 _ _ _ h).trans rfl, (cell_of_row _ _ 6 _ _ _ h).trans rfl, (cell_of_row _ _ 7 _ _ _ h).trans rfl⟩
theorem else_frag (cs : Array Value) : Else (.cells cs 62 (0, 0)) := by simp [Else]
theorem else_node (cs : Array Value) : Else (.cells cs 36 (0, 0)) := by simp [Else]
set_option maxHeartbeats 2000000 in
theorem behind_any (w0 : World) (bb bv mb : Nat) (q : Pat) (hf : Frag (bld q)) (H : BuildC w0 bb bv mb q) (m : Mach) (c d x : Nat) (ks : Value) (w : World) (hc : m.n = c) (hd : m.n + 1 = d) (h : St w0 bb bv mb m w) (hk : Kids w0 q.kids ks) (he : m.e.length ≤ 2 * m.n) (ha : m.a.length ≤ m.n) (hn : (bld q m).n ≤ 20000) :
    Calls Tryd.prog 49 #[ptr bb, .int .i64 x, (.agg #[.int .i64 q.op, .int .u64 (wd q.set 0), .int .u64 (wd q.set 1), .int .u64 (wd q.set 2), .int .u64 (wd q.set 3), .int .i64 q.lo, .int .i64 q.hi, ks])] w (Built w0 bb bv mb (.int .i64 d) (behind (bld q) (m, x)).1 w) := by
  obtain ⟨a, cap, rfl⟩ := hk.len
  obtain ⟨N, hN⟩ : ∃ N, w.heap.size = N := ⟨_, rfl⟩
  obtain ⟨w1, hw1⟩ : ∃ w1, w1 = w.alloc (.cells #[.int .i64 q.op, .int .u64 (wd q.set 0), .int .u64 (wd q.set 1), .int .u64 (wd q.set 2), .int .u64 (wd q.set 3), .int .i64 q.lo, .int .i64 q.hi, .slice a q.kids.length cap] 36) := ⟨_, rfl⟩
  have hb1 : Below w.heap.size w w1 := by rw [hw1]; exact new_one w _
  have hst := (hf m).1
  have hel : (bld q m).e.length ≤ 2 * (bld q m).n := by have := hst.e; omega
  have HC := Lib.hid (H m c d (.slice a q.kids.length cap) w1 hc hd (h.next hb1) hk he ha hn)
  have HK1 := Lib.hid (Keep.below hb1)
  have HW := Lib.hid hw1
  have hnode : w1.heap[N]? = some (.cells #[.int .i64 q.op, .int .u64 (wd q.set 0), .int .u64 (wd q.set 1), .int .u64 (wd q.set 2), .int .u64 (wd q.set 3), .int .i64 q.lo, .int .i64 q.hi, .slice a q.kids.length cap] 36 (0, 0)) := by rw [hw1, ← hN]; exact heap_alloc_new w _
  obtain ⟨k0, k1, k2, k3, k4, k5, k6, k7⟩ := node_cells hnode
  clear hb1 hw1 hnode hst
  go_enter Tryd.func49, Tryd.ntmps49
  go_upto_region 2 with (go_at_call 26; (try rw [← HW.out]); refine HC.out.mono ?_; rintro e w2 ⟨rfl, HS2, HK2⟩)
  obtain ⟨g, hg⟩ : ∃ g, w2.heap.size = g := ⟨_, rfl⟩
  obtain ⟨w3, hw3⟩ : ∃ w3, w2.alloc (.cells #[.int .i64 c, .int .i64 d] 62) = w3 := ⟨_, rfl⟩
  have hx3 : w3.heap[g]? = some (.cells #[.int .i64 c, .int .i64 d] 62 (0, 0)) := by rw [← hw3, ← hg]; exact heap_alloc_new w2 _
  have hb3 : Below w2.heap.size w2 w3 := by rw [← hw3]; exact new_one w2 _
  have HS3 := Lib.hid (HS2.out.next hb3)
  have HK3 := Lib.hid ((HK1.out.trans HK2.out).trans (Keep.below hb3))
  have HX3 := Lib.hid hx3
  obtain ⟨f0, f1⟩ := frag_cells hx3
  rw [hw3, hg]
  clear hw3 hx3 hb3 hg HC HW
  have HE := Lib.hid (eps_any w0 bb bv mb (bld q m) x c w3 HS3.out (by omega))
  go_wp2_with (go_at_call 50; refine HE.out.mono ?_; rintro e w4 ⟨rfl, HS4, HK4⟩; obtain ⟨f0', f1'⟩ := frag_cells (HK4.out.block g _ HX3.out (else_frag _)))
  refine bodyPost_ret (v := .int .i64 d) (by simp [results, Tryd.results49, go_sem, *]) rfl ⟨rfl, ?_, Lib.hid (HK3.out.trans HK4.out)⟩
  have : (behind (bld q) (m, x)).1 = (bld q m).eps x c := by rw [← hc]; rfl
  rw [this]; exact HS4
set_option maxHeartbeats 2000000 in
theorem loop_any (w0 : World) (bb bv mb : Nat) (q : Pat) (hf : Frag (bld q)) (H : BuildC w0 bb bv mb q) (m : Mach) (c d x z : Nat) (ks : Value) (w : World) (hc : m.n = c) (hd : m.n + 1 = d) (h : St w0 bb bv mb m w) (hk : Kids w0 q.kids ks) (he : m.e.length ≤ 2 * m.n) (ha : m.a.length ≤ m.n) (hn : (bld q m).n ≤ 20000) :
    Calls Tryd.prog 53 #[ptr bb, .int .i64 x, (.agg #[.int .i64 q.op, .int .u64 (wd q.set 0), .int .u64 (wd q.set 1), .int .u64 (wd q.set 2), .int .u64 (wd q.set 3), .int .i64 q.lo, .int .i64 q.hi, ks]), .int .i64 z] w (Built w0 bb bv mb (.tuple #[]) (loopB (bld q) z (m, x)).1 w) := by
  obtain ⟨a, cap, rfl⟩ := hk.len
  obtain ⟨N, hN⟩ : ∃ N, w.heap.size = N := ⟨_, rfl⟩
  obtain ⟨w1, hw1⟩ : ∃ w1, w1 = w.alloc (.cells #[.int .i64 q.op, .int .u64 (wd q.set 0), .int .u64 (wd q.set 1), .int .u64 (wd q.set 2), .int .u64 (wd q.set 3), .int .i64 q.lo, .int .i64 q.hi, .slice a q.kids.length cap] 36) := ⟨_, rfl⟩
  have hb1 : Below w.heap.size w w1 := by rw [hw1]; exact new_one w _
  have hst := (hf m).1
  have hel : (bld q m).e.length ≤ 2 * (bld q m).n := by have := hst.e; omega
  have HC := Lib.hid (H m c d (.slice a q.kids.length cap) w1 hc hd (h.next hb1) hk he ha hn)
  have HK1 := Lib.hid (Keep.below hb1)
  have HW := Lib.hid hw1
  have hnode : w1.heap[N]? = some (.cells #[.int .i64 q.op, .int .u64 (wd q.set 0), .int .u64 (wd q.set 1), .int .u64 (wd q.set 2), .int .u64 (wd q.set 3), .int .i64 q.lo, .int .i64 q.hi, .slice a q.kids.length cap] 36 (0, 0)) := by rw [hw1, ← hN]; exact heap_alloc_new w _
  obtain ⟨k0, k1, k2, k3, k4, k5, k6, k7⟩ := node_cells hnode
  clear hb1 hw1 hnode hst
  go_enter Tryd.func53, Tryd.ntmps53
  go_upto_region 2 with (go_at_call 26; (try rw [← HW.out]); refine HC.out.mono ?_; rintro e w2 ⟨rfl, HS2, HK2⟩)
  obtain ⟨g, hg⟩ : ∃ g, w2.heap.size = g := ⟨_, rfl⟩
  obtain ⟨w3, hw3⟩ : ∃ w3, w2.alloc (.cells #[.int .i64 c, .int .i64 d] 62) = w3 := ⟨_, rfl⟩
  have hx3 : w3.heap[g]? = some (.cells #[.int .i64 c, .int .i64 d] 62 (0, 0)) := by rw [← hw3, ← hg]; exact heap_alloc_new w2 _
  have hb3 : Below w2.heap.size w2 w3 := by rw [← hw3]; exact new_one w2 _
  have HS3 := Lib.hid (HS2.out.next hb3)
  have HK3 := Lib.hid ((HK1.out.trans HK2.out).trans (Keep.below hb3))
  have HX3 := Lib.hid hx3
  obtain ⟨f0, f1⟩ := frag_cells hx3
  rw [hw3, hg]
  clear hw3 hx3 hb3 hg HC HW k0 k1 k2 k3 k4 k5 k6 k7
  have HE := Lib.hid (eps_any w0 bb bv mb (bld q m) x c w3 HS3.out (by omega))
  go_upto_region 3 with (go_at_call 50; refine HE.out.mono ?_; rintro e w4 ⟨rfl, HS4, HK4⟩)
  have HX4 := Lib.hid (HK4.out.block g _ HX3.out (else_frag _))
  clear f0 f1
  obtain ⟨f0, f1⟩ := frag_cells HX4.out
  have HE2 := Lib.hid (eps_any w0 bb bv mb _ d c w4 HS4.out (by simp only [Mach.eps, List.length_append, List.length_singleton]; omega))
  go_upto_region 4 with (go_at_call 50; refine HE2.out.mono ?_; rintro e w5 ⟨rfl, HS5, HK5⟩)
  have HX5 := Lib.hid (HK5.out.block g _ HX4.out (else_frag _))
  clear f0 f1
  obtain ⟨f0, f1⟩ := frag_cells HX5.out
  have HE3 := Lib.hid (eps_any w0 bb bv mb _ d z w5 HS5.out (by simp only [Mach.eps, List.length_append, List.length_singleton]; omega))
  go_wp2_with (go_at_call 50; refine HE3.out.mono ?_; rintro e w6 ⟨rfl, HS6, HK6⟩)
  go_end0
  refine ⟨rfl, ?_, Lib.hid (((HK3.out.trans HK4.out).trans HK5.out).trans HK6.out)⟩
  have : (loopB (bld q) z (m, x)).1 = (((bld q m).eps x c).eps d c).eps d z := by rw [← hd, ← hc]; rfl
  rw [this]; exact HS6
end Go.Proofs.YtpfhhdiipedklaaDoor
