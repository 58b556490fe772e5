/- Texts that a proof rests on: The contract of build. | Every plain pattern is built. -/
import Derived.Test.YtpfhhdiipedklaaDoorK16
set_option maxRecDepth 100000
namespace Go.Proofs.YtpfhhdiipedklaaDoor
open Go.RowKit

theorem BS.two {w0 w : World} {bb bv mb : Nat} {ve va : Value} {m : Mach} (h : BS w0 bb bv mb ve va m w) (v : Value) (hv : v = .int .i64 (m.two.n)) : St w0 bb bv mb m.two (w.setCell ⟨bb, 0, none⟩ v) ∧ Keep w (w.setCell ⟨bb, 0, none⟩ v) := by
  subst hv
  have hset : ∀ k o, w.heap[k]? = some o → k ≠ bb → (w.setCell ⟨bb, 0, none⟩ (.int .i64 m.two.n)).heap[k]? = some o := fun k o h1 h2 => (Below.heap_setCell _ _ _ _ (by show k ≠ bb; exact h2)).trans h1
  have ne_of : ∀ k o, w.heap[k]? = some o → o ≠ .cells #[.int .i64 m.n, ve, va, .int .i64 0, .int .i64 0, .map (some mb)] 66 (0, 0) → k ≠ bb := fun k o h1 h2 e => by
    subst e; rw [h.obj] at h1; cases h1; exact h2 rfl
  refine ⟨⟨ve, va, ⟨h.below.setCell (p := ⟨bb, 0, none⟩) h.lo _, h.lo, ?_, ?_, ?_, row_keep h.re fun g2 cs _ h2 => hset g2 _ h2 (ne_of g2 _ h2 (fun e => by cases e)), row_keep h.ra fun g2 cs _ h2 => hset g2 _ h2 (ne_of g2 _ h2 (fun e => by cases e))⟩⟩, ⟨?_, ?_⟩⟩
  · rw [setCell_block h.obj]; rfl
  · exact hset bv _ h.var (ne_of bv _ h.var (fun e => by cases e))
  · exact hset mb _ h.map (ne_of mb _ h.map (fun e => by cases e))
  · simp only [World.size_setCell]; omega
  · intro k o h1 h2
    refine hset k o h1 (fun e => ?_)
    subst e; rw [h.obj] at h1; cases h1; simp [Else] at h2
theorem look_kind {w : World} {mb bv c : Nat} (hb : w.heap[mb]? = some (.map (kindsMap bv) c)) (op : Int) (f : Nat) (h : op = 0 ∧ f = 46 ∨ op = 1 ∧ f = 48 ∨ op = 2 ∧ f = 51 ∨ op = 3 ∧ f = 52) :
    (Instr.lookup 64 (.map (some mb)) (.int .i64 op) false).run Tryd.prog w = .ok (clo f bv) w := by
  have hk : Tryd.prog.underlying 3 = some (.int .i64) := Tryd.underlying3
  have hz : (zeroValue 97).run Tryd.prog w = .ok .nilFunc w := by kernel_rfl
  have hc : ∀ x : Int, (Instr.checkKey (kindsMap bv).isEmpty 10000 3 (.int .i64 x)).run Tryd.prog w = .ok () w := fun x => MapKept.run_checkKey (k := .int .i64 x) hk rfl _ _
  rcases h with ⟨rfl, rfl⟩ | ⟨rfl, rfl⟩ | ⟨rfl, rfl⟩ | ⟨rfl, rfl⟩
  · have hf : Instr.findNow (.int .i64) (.int .i64 0) (kindsMap bv).toList 0 = some (some (0, clo 46 bv)) := rfl
    simp [Instr.lookup, run_underlying Tryd.underlying64, MapKept.run_getObj_map hb, hc, MapKept.run_findKey hk hf, Result.andThen]
  · have hf : Instr.findNow (.int .i64) (.int .i64 1) (kindsMap bv).toList 0 = some (some (1, clo 48 bv)) := rfl
    simp [Instr.lookup, run_underlying Tryd.underlying64, MapKept.run_getObj_map hb, hc, MapKept.run_findKey hk hf, Result.andThen]
  · have hf : Instr.findNow (.int .i64) (.int .i64 2) (kindsMap bv).toList 0 = some (some (2, clo 51 bv)) := rfl
    simp [Instr.lookup, run_underlying Tryd.underlying64, MapKept.run_getObj_map hb, hc, MapKept.run_findKey hk hf, Result.andThen]
  · have hf : Instr.findNow (.int .i64) (.int .i64 3) (kindsMap bv).toList 0 = some (some (3, clo 52 bv)) := rfl
    simp [Instr.lookup, run_underlying Tryd.underlying64, MapKept.run_getObj_map hb, hc, MapKept.run_findKey hk hf, Result.andThen]
theorem St.setf {w0 w : World} {bb bv mb b : Nat} {m : Mach} {cs : Array Value} (h : St w0 bb bv mb m w) (hb : w.heap[b]? = some (.cells cs 62 (0, 0))) (hl : w0.heap.size ≤ b) (i : Nat) (v : Value) : St w0 bb bv mb m (w.setCell ⟨b, i, none⟩ v) ∧ (w.setCell ⟨b, i, none⟩ v).heap[b]? = some (.cells (cs.setIfInBounds i v) 62 (0, 0)) := by
  obtain ⟨ve, va, h⟩ := h
  have hset : ∀ (k : Nat) (o : Obj), w.heap[k]? = some o → o ≠ .cells cs 62 (0, 0) → (w.setCell ⟨b, i, none⟩ v).heap[k]? = some o := fun k o h1 h2 => (Below.heap_setCell _ _ _ _ (by show k ≠ b; exact fun e => by subst e; rw [hb] at h1; cases h1; exact h2 rfl)).trans h1
  exact ⟨⟨ve, va, ⟨h.below.setCell (p := ⟨b, i, none⟩) hl _, h.lo, hset _ _ h.obj (fun e => by cases e), hset _ _ h.var (fun e => by cases e), hset _ _ h.map (fun e => by cases e), row_keep h.re fun g2 cs2 _ h2 => hset g2 _ h2 (fun e => by cases e), row_keep h.ra fun g2 cs2 _ h2 => hset g2 _ h2 (fun e => by cases e)⟩⟩, setCell_block hb v⟩
theorem Keep.set {w W : World} {b : Nat} (h : Keep w W) (hb : w.heap.size ≤ b) (i : Nat) (v : Value) : Keep w (W.setCell ⟨b, i, none⟩ v) :=
  ⟨by simp only [World.size_setCell]; exact h.size, fun k o h1 h2 => (Below.heap_setCell _ _ _ _ (by show k ≠ b; have := lt_of_block h1; omega)).trans (h.block k o h1 h2)⟩
theorem build_hold {w0 w4 W : World} {bb bv mb N c d : Nat} {p : Pat} {a : Option Addr} {cap : Nat} {m : Mach} (hx : w4.heap[N]? = some (.cells #[.int .i64 p.op, .int .u64 (wd p.set 0), .int .u64 (wd p.set 1), .int .u64 (wd p.set 2), .int .u64 (wd p.set 3), .int .i64 p.lo, .int .i64 p.hi, .slice a p.kids.length cap] 36 (0, 0))) (hf : w4.heap[N + 2]? = some (.cells #[.int .i64 c, .int .i64 d] 62 (0, 0))) (hk : Keep w4 W) (hs : St w0 bb bv mb m W) : W.cell? ⟨bb, 5, none⟩ = some (.map (some mb)) ∧ W.heap[mb]? = some (.map (kindsMap bv) 4) ∧ W.cell? ⟨N, 0, none⟩ = some (.int .i64 p.op) ∧ W.cell? ⟨N, 1, none⟩ = some (.int .u64 (wd p.set 0)) ∧ W.cell? ⟨N, 2, none⟩ = some (.int .u64 (wd p.set 1)) ∧ W.cell? ⟨N, 3, none⟩ = some (.int .u64 (wd p.set 2)) ∧ W.cell? ⟨N, 4, none⟩ = some (.int .u64 (wd p.set 3)) ∧ W.cell? ⟨N, 5, none⟩ = some (.int .i64 p.lo) ∧ W.cell? ⟨N, 6, none⟩ = some (.int .i64 p.hi) ∧ W.cell? ⟨N, 7, none⟩ = some (.slice a p.kids.length cap) ∧ W.cell? ⟨N + 2, 0, none⟩ = some (.int .i64 c) ∧ W.cell? ⟨N + 2, 1, none⟩ = some (.int .i64 d) ∧ Keep w4 W := by
  obtain ⟨f0, f1⟩ := frag_cells (hk.block (N + 2) _ hf (else_frag _))
  obtain ⟨k0, k1, k2, k3, k4, k5, k6, k7⟩ := node_cells (hk.block N _ hx (else_node _))
  obtain ⟨ve, va, h⟩ := hs
  exact ⟨h.cells.2.2.2.1, h.map, k0, k1, k2, k3, k4, k5, k6, k7, f0, f1, hk⟩
theorem build_keep {w4 W : World} {bb bv mb N c d : Nat} {p : Pat} {a : Option Addr} {cap : Nat} (h : W.cell? ⟨bb, 5, none⟩ = some (.map (some mb)) ∧ W.heap[mb]? = some (.map (kindsMap bv) 4) ∧ W.cell? ⟨N, 0, none⟩ = some (.int .i64 p.op) ∧ W.cell? ⟨N, 1, none⟩ = some (.int .u64 (wd p.set 0)) ∧ W.cell? ⟨N, 2, none⟩ = some (.int .u64 (wd p.set 1)) ∧ W.cell? ⟨N, 3, none⟩ = some (.int .u64 (wd p.set 2)) ∧ W.cell? ⟨N, 4, none⟩ = some (.int .u64 (wd p.set 3)) ∧ W.cell? ⟨N, 5, none⟩ = some (.int .i64 p.lo) ∧ W.cell? ⟨N, 6, none⟩ = some (.int .i64 p.hi) ∧ W.cell? ⟨N, 7, none⟩ = some (.slice a p.kids.length cap) ∧ W.cell? ⟨N + 2, 0, none⟩ = some (.int .i64 c) ∧ W.cell? ⟨N + 2, 1, none⟩ = some (.int .i64 d) ∧ Keep w4 W) : Keep w4 W := h.2.2.2.2.2.2.2.2.2.2.2.2
set_option linter.unusedSimpArgs false in
set_option maxHeartbeats 8000000 in
theorem build_walk (w0 : World) (bb bv mb : Nat) (p : Pat) (m : Mach) (c d f : Nat) (ks : Value) (w : World) (hc : m.n = c) (hd : m.n + 1 = d) (h : St w0 bb bv mb m w) (hk : Kids w0 p.kids ks) (hn : m.n ≤ 20000)
    (hop : p.op = 0 ∧ f = 46 ∨ p.op = 1 ∧ f = 48 ∨ p.op = 2 ∧ f = 51 ∨ p.op = 3 ∧ f = 52)
    (H : ∀ W, St w0 bb bv mb m.two W → Calls Tryd.prog f #[.agg #[.int .i64 c, .int .i64 d], (.agg #[.int .i64 p.op, .int .u64 (wd p.set 0), .int .u64 (wd p.set 1), .int .u64 (wd p.set 2), .int .u64 (wd p.set 3), .int .i64 p.lo, .int .i64 p.hi, ks]), ptr bv] W (Built w0 bb bv mb (.tuple #[]) (bld p m) W)) :
    Calls Tryd.prog 26 #[ptr bb, (.agg #[.int .i64 p.op, .int .u64 (wd p.set 0), .int .u64 (wd p.set 1), .int .u64 (wd p.set 2), .int .u64 (wd p.set 3), .int .i64 p.lo, .int .i64 p.hi, ks])] w (Built w0 bb bv mb (.agg #[.int .i64 c, .int .i64 d]) (bld p m) w) := by
  obtain ⟨a, cap, rfl⟩ := hk.len
  obtain ⟨N, hN⟩ : ∃ N, w.heap.size = N := ⟨_, rfl⟩
  obtain ⟨w1, hw1⟩ : ∃ w1, w1 = (w.alloc (.cells #[.int .i64 p.op, .int .u64 (wd p.set 0), .int .u64 (wd p.set 1), .int .u64 (wd p.set 2), .int .u64 (wd p.set 3), .int .i64 p.lo, .int .i64 p.hi, .slice a p.kids.length cap] 36)).alloc (.cells #[.int .i64 0, .int .i64 0] 62) := ⟨_, rfl⟩
  have hb1 : Below w.heap.size w w1 := by rw [hw1]; exact below2 w _ _
  have hs1 : w1.heap.size = N + 2 := by rw [hw1]; simp [hN]
  have hx1 : w1.heap[N]? = some (.cells #[.int .i64 p.op, .int .u64 (wd p.set 0), .int .u64 (wd p.set 1), .int .u64 (wd p.set 2), .int .u64 (wd p.set 3), .int .i64 p.lo, .int .i64 p.hi, .slice a p.kids.length cap] 36 (0, 0)) := by rw [hw1, heap_alloc_old _ _ (by simp; omega), ← hN]; exact heap_alloc_new w _
  have hr1 : w1.heap[N + 1]? = some (.cells #[.int .i64 0, .int .i64 0] 62 (0, 0)) := by
    have := heap_alloc_new (w.alloc (.cells #[.int .i64 p.op, .int .u64 (wd p.set 0), .int .u64 (wd p.set 1), .int .u64 (wd p.set 2), .int .u64 (wd p.set 3), .int .i64 p.lo, .int .i64 p.hi, .slice a p.kids.length cap] 36)) (.cells #[.int .i64 0, .int .i64 0] 62)
    rw [World.size_alloc, hN] at this
    rw [hw1]; exact this
  have HK1 := Lib.hid (Keep.below hb1)
  have HS1 := Lib.hid (h.next hb1)
  have HX1 := Lib.hid hx1
  have HR1 := Lib.hid hr1
  have HW := Lib.hid hw1
  have HC := Lib.hid H
  have HOP := Lib.hid hop
  have hwr : IntKind.i64.wrap ((c : Int) + 1) = (d : Int) := by rw [IntKind.wrap_i64]; omega
  have HWR := Lib.hid hwr
  obtain ⟨ve, va, hBS⟩ := h.next hb1
  have HBS := Lib.hid hBS
  obtain ⟨e0, _, _, _, _⟩ := hBS.cells
  rw [hc] at e0
  have mixed : Tryd.prog.follows .mixedOrders = true := by kernel_rfl
  have k0 : w1.drew.cell? ⟨bb, 0, none⟩ = some (.int .i64 c) := e0
  clear hb1 hx1 hr1 hw1 hBS H hop hk e0
  go_enter Tryd.func26, Tryd.ntmps26
  go_upto_region 1 with fail
  rw [← HW.out]
  refine region_goes 13 14 rfl (fun W => W.cell? ⟨bb, 0, none⟩ = some (.int .i64 c)) mixed k0 (fun hHeld => ?_)
  refine goes_take (i := 0) (v := ?gv1) rfl (by kernel_rfl) (by kernel_rfl) (by kernel_rfl) (by kernel_rfl) (fun _ _ _ h => h) (Or.inl ⟨by rfl, ?gy1⟩) (by assumption) ?gr1
  case gy1 => (intro W9 k0; first | (go_simp; done) | (go_simp; with_reducible rfl))
  simp only [Act.put, List.getElem_toArray, List.getElem_cons_succ, List.getElem_cons_zero, List.setIfInBounds_toArray, List.set_cons_zero, List.set_cons_succ]
  refine goes_take (i := 1) (v := ?gv2) rfl (by kernel_rfl) (by kernel_rfl) (by kernel_rfl) (by kernel_rfl) (fun _ _ _ h => h) (Or.inl ⟨by rfl, ?gy2⟩) (by assumption) ?gr2
  case gy2 => (intro W9 k0; first | (go_simp; done) | (go_simp; with_reducible rfl))
  simp only [Act.put, List.getElem_toArray, List.getElem_cons_succ, List.getElem_cons_zero, List.setIfInBounds_toArray, List.set_cons_zero, List.set_cons_succ]
  refine goes_take (i := 2) (v := ?gv3) rfl (by kernel_rfl) (by kernel_rfl) (by kernel_rfl) (by kernel_rfl) (fun _ _ _ h => h) (Or.inl ⟨by rfl, ?gy3⟩) (by assumption) ?gr3
  case gy3 => (intro W9 k0; first | (go_simp; done) | (go_simp; with_reducible rfl))
  simp only [Act.put, List.getElem_toArray, List.getElem_cons_succ, List.getElem_cons_zero, List.setIfInBounds_toArray, List.set_cons_zero, List.set_cons_succ]
  refine goes_take (i := 3) (v := ?gv4) rfl (by kernel_rfl) (by kernel_rfl) (by kernel_rfl) (by kernel_rfl) (fun _ _ _ h => h) (Or.inl ⟨by rfl, ?gy4⟩) (by assumption) ?gr4
  case gy4 => (intro W9 k0; first | (go_simp; done) | (go_simp; with_reducible rfl))
  simp only [Act.put, List.getElem_toArray, List.getElem_cons_succ, List.getElem_cons_zero, List.setIfInBounds_toArray, List.set_cons_zero, List.set_cons_succ]
  refine goes_take (i := 4) (v := ?gv5) rfl (by kernel_rfl) (by kernel_rfl) (by kernel_rfl) (by kernel_rfl) (fun _ _ _ h => h) (Or.inl ⟨by rfl, ?gy5⟩) (by assumption) ?gr5
  case gy5 => (intro W9 k0; first | (go_simp; done) | (go_simp; with_reducible rfl))
  simp only [Act.put, List.getElem_toArray, List.getElem_cons_succ, List.getElem_cons_zero, List.setIfInBounds_toArray, List.set_cons_zero, List.set_cons_succ]
  refine goes_take (i := 5) (v := ?gv6) rfl (by kernel_rfl) (by kernel_rfl) (by kernel_rfl) (by kernel_rfl) (fun _ _ _ h => h) (Or.inl ⟨by rfl, ?gy6⟩) (by assumption) ?gr6
  case gy6 => (intro W9 k0; first | (go_simp; done) | (go_simp; with_reducible rfl))
  simp only [Act.put, List.getElem_toArray, List.getElem_cons_succ, List.getElem_cons_zero, List.setIfInBounds_toArray, List.set_cons_zero, List.set_cons_succ]
  refine goes_take (i := 6) (v := ?gv7) rfl (by kernel_rfl) (by kernel_rfl) (by kernel_rfl) (by kernel_rfl) (fun _ _ _ h => h) (Or.inl ⟨by rfl, ?gy7⟩) (by assumption) ?gr7
  case gy7 => (intro W9 k0; first | (go_simp; done) | (go_simp; with_reducible rfl))
  simp only [Act.put, List.getElem_toArray, List.getElem_cons_succ, List.getElem_cons_zero, List.setIfInBounds_toArray, List.set_cons_zero, List.set_cons_succ]
  refine goes_take (i := 7) (v := ?gv8) rfl (by kernel_rfl) (by kernel_rfl) (by kernel_rfl) (by kernel_rfl) (fun _ _ _ h => h) (Or.inl ⟨by rfl, ?gy8⟩) (by assumption) ?gr8
  case gy8 => (intro W9 k0; first | (go_simp; done) | (go_simp; with_reducible rfl))
  simp only [Act.put, List.getElem_toArray, List.getElem_cons_succ, List.getElem_cons_zero, List.setIfInBounds_toArray, List.set_cons_zero, List.set_cons_succ]
  refine goes_take (i := 8) (v := ?gv9) rfl (by kernel_rfl) (by kernel_rfl) (by kernel_rfl) (by kernel_rfl) (fun _ _ _ h => h) (Or.inl ⟨by rfl, ?gy9⟩) (by assumption) ?gr9
  case gy9 => (intro W9 k0; first | (go_simp; done) | (go_simp; with_reducible rfl))
  simp only [Act.put, List.getElem_toArray, List.getElem_cons_succ, List.getElem_cons_zero, List.setIfInBounds_toArray, List.set_cons_zero, List.set_cons_succ]
  refine goes_take (i := 9) (v := ?gv10) rfl (by kernel_rfl) (by kernel_rfl) (by kernel_rfl) (by kernel_rfl) (fun _ _ _ h => h) (Or.inl ⟨by rfl, ?gy10⟩) (by assumption) ?gr10
  case gy10 => (intro W9 k0; first | (go_simp; done) | (go_simp; with_reducible rfl))
  simp only [Act.put, List.getElem_toArray, List.getElem_cons_succ, List.getElem_cons_zero, List.setIfInBounds_toArray, List.set_cons_zero, List.set_cons_succ]
  refine goes_take (i := 10) (v := .int .i64 d) rfl (by kernel_rfl) (by kernel_rfl) (by kernel_rfl) (by kernel_rfl) (fun _ _ _ h => h) (Or.inl ⟨by rfl, ?gy11⟩) (by assumption) ?gr11
  case gy11 => (intro W9 k0; first | (go_simp; done) | (go_simp; with_reducible rfl))
  simp only [Act.put, List.getElem_toArray, List.getElem_cons_succ, List.getElem_cons_zero, List.setIfInBounds_toArray, List.set_cons_zero, List.set_cons_succ]
  refine goes_take (i := 11) (v := ?gv12) rfl (by kernel_rfl) (by kernel_rfl) (by kernel_rfl) (by kernel_rfl) (fun _ _ _ h => h) (Or.inl ⟨by rfl, ?gy12⟩) (by assumption) ?gr12
  case gy12 => (intro W9 k0; first | (go_simp; done) | (go_simp; with_reducible rfl))
  simp only [Act.put, List.getElem_toArray, List.getElem_cons_succ, List.getElem_cons_zero, List.setIfInBounds_toArray, List.set_cons_zero, List.set_cons_succ]
  refine goes_one (i := 12) (by kernel_rfl) rfl (fun K9 hK9 => ?_)
  go_simp
  refine hK9.out _ _ (fun _ => cell_below (new_one w1.drew _) hHeld) (fun hHeld => ?_)
  have hHeld := hHeld (by decide)
  clear hK9 K9
  refine goes_one (i := 13) (by kernel_rfl) rfl (fun K9 hK9 => ?_)
  go_simp
  refine hK9.out _ _ (fun h => absurd rfl h) (fun _ => ?_)
  clear hK9 K9
  refine goes_done (by kernel_rfl) ?_ _
  obtain ⟨w3, hw3⟩ : ∃ w3, (w1.alloc (.cells #[.int .i64 c, .int .i64 d] 62)).drew = w3 := ⟨_, rfl⟩
  have hb3 : Below w1.heap.size w1 w3 := by rw [← hw3]; exact (new_one w1 _).drew
  have hf3 : w3.heap[N + 2]? = some (.cells #[.int .i64 c, .int .i64 d] 62 (0, 0)) := by
    rw [← hw3]
    show (w1.alloc _).heap[N + 2]? = _
    rw [← hs1]; exact heap_alloc_new w1 _
  have hx3 := (hb3.block N (by omega)).trans HX1.out
  have hr3 := (hb3.block (N + 1) (by omega)).trans HR1.out
  have HBS3 := Lib.hid (HBS.out.next hb3)
  have HK3 := Lib.hid (HK1.out.trans (Keep.below hb3))
  obtain ⟨c0, _, _, _, _⟩ := HBS3.out.cells
  rw [hc] at c0
  have f0 : w3.frozen? ⟨bb, 0, none⟩ = false := free_cells HBS3.out.obj
  rw [hw3]
  obtain ⟨st4, kp4⟩ := HBS3.out.two (.int .i64 ((c : Int) + 2)) (by simp only [Mach.two]; rw [← hc]; rfl)
  have hx4 := kp4.block N _ hx3 (else_node _)
  have hr4 := kp4.block (N + 1) _ hr3 (else_frag _)
  have hf4 := kp4.block (N + 2) _ hf3 (else_frag _)
  have hcb : c ≤ 20000 := by omega
  clear hw3 hb3 hx3 hr3 hf3 HBS HBS3 HS1 k0 hwr HWR HW HX1 HR1
  have HX4 := Lib.hid hx4
  have HR4 := Lib.hid hr4
  have HF4 := Lib.hid hf4
  have HK4 := Lib.hid (HK3.out.trans kp4)
  generalize hw4 : w3.setCell ⟨bb, 0, none⟩ (.int .i64 ((c : Int) + 2)) = w4 at *
  have CC : Hid (∀ W, St w0 bb bv mb m.two W → Calls Tryd.prog f #[.agg #[.int .i64 c, .int .i64 d], (.agg #[.int .i64 p.op, .int .u64 (wd p.set 0), .int .u64 (wd p.set 1), .int .u64 (wd p.set 2), .int .u64 (wd p.set 3), .int .i64 p.lo, .int .i64 p.hi, .slice a p.kids.length cap]), ptr bv] W fun e W' => e = .returned (.tuple #[]) ∧ St w0 bb bv mb (bld p m) W' ∧ Keep W W') := Lib.hid fun W hW => by
    refine (HC.out W hW).mono ?_
    rintro e W' ⟨rfl, h1, h2⟩
    exact ⟨rfl, h1.out, h2.out⟩
  have hmap4 : w4.drew.heap[mb]? = some (.map (kindsMap bv) 4) := by
    obtain ⟨ve4, va4, h4⟩ := st4
    exact h4.map
  have hlk := look_kind hmap4 p.op f HOP.out
  have HST4 := Lib.hid st4
  clear hmap4 st4 kp4 hx4 hr4 hf4 HC
  go_upto_region 3 with fail
  clear hw4 c0 f0
  have hstd := HST4.out.drew
  have hkd := keep_drew w4
  obtain ⟨ho, rfl⟩ | ⟨ho, rfl⟩ | ⟨ho, rfl⟩ | ⟨ho, rfl⟩ := HOP.out
  all_goals
    clear HOP ho
    go_region_held3 (fun W => W.cell? ⟨bb, 5, none⟩ = some (.map (some mb)) ∧ W.heap[mb]? = some (.map (kindsMap bv) 4) ∧ W.cell? ⟨N, 0, none⟩ = some (.int .i64 p.op) ∧ W.cell? ⟨N, 1, none⟩ = some (.int .u64 (wd p.set 0)) ∧ W.cell? ⟨N, 2, none⟩ = some (.int .u64 (wd p.set 1)) ∧ W.cell? ⟨N, 3, none⟩ = some (.int .u64 (wd p.set 2)) ∧ W.cell? ⟨N, 4, none⟩ = some (.int .u64 (wd p.set 3)) ∧ W.cell? ⟨N, 5, none⟩ = some (.int .i64 p.lo) ∧ W.cell? ⟨N, 6, none⟩ = some (.int .i64 p.hi) ∧ W.cell? ⟨N, 7, none⟩ = some (.slice a p.kids.length cap) ∧ W.cell? ⟨N + 2, 0, none⟩ = some (.int .i64 c) ∧ W.cell? ⟨N + 2, 1, none⟩ = some (.int .i64 d) ∧ Keep w4 W)
      (first | (with_reducible exact build_hold HX4.out HF4.out (Keep.trans (build_keep (by assumption)) (by assumption)) (by assumption)) | (with_reducible exact build_hold HX4.out HF4.out hkd hstd))
      (first
        | (go_at_call 46; (with_reducible refine (CC.out _ (by assumption)).mono ?_); rintro e w6 ⟨rfl, hst6, hk6⟩)
        | (go_at_call 48; (with_reducible refine (CC.out _ (by assumption)).mono ?_); rintro e w6 ⟨rfl, hst6, hk6⟩)
        | (go_at_call 51; (with_reducible refine (CC.out _ (by assumption)).mono ?_); rintro e w6 ⟨rfl, hst6, hk6⟩)
        | (go_at_call 52; (with_reducible refine (CC.out _ (by assumption)).mono ?_); rintro e w6 ⟨rfl, hst6, hk6⟩))
    have HFIN := Lib.hid ((HK4.out.trans hkd).trans hk6)
    have HST6 := Lib.hid hst6
    have hf6 := (hkd.trans hk6).block (N + 2) _ HF4.out (else_frag _)
    have hr6 := (hkd.trans hk6).block (N + 1) _ HR4.out (else_frag _)
    obtain ⟨f0, f1⟩ := frag_cells hf6
    obtain ⟨r0, r1⟩ := frag_cells hr6
    have z0 : w6.frozen? ⟨N + 1, 0, none⟩ = false := free_cells hr6
    have z1 : w6.frozen? ⟨N + 1, 1, none⟩ = false := free_cells hr6
    have hlo := HST6.out.below.size
    have hw0 := h.below.size
    have HEND := Lib.hid (And.intro ((HST6.out.setf hr6 (by omega) 0 (.int .i64 c)).1.setf (HST6.out.setf hr6 (by omega) 0 (.int .i64 c)).2 (by omega) 1 (.int .i64 d)).1 ((HFIN.out.set (b := N + 1) (by omega) 0 (.int .i64 c)).set (b := N + 1) (by omega) 1 (.int .i64 d)))
    clear hk6 hst6 hstd hkd hlk hf6 hr6
    go_wp2
    exact bodyPost_ret (v := .agg #[.int .i64 c, .int .i64 d]) (by simp [results, Tryd.results26, go_sem, *]) rfl ⟨rfl, Lib.hid HEND.out.1, Lib.hid HEND.out.2⟩
end Go.Proofs.YtpfhhdiipedklaaDoor
set_option maxRecDepth 100000
namespace Go.Proofs.YtpfhhdiipedklaaDoor
open Go.RowKit

theorem build_any (w0 : World) (bb bv mb : Nat) (p : Pat) : p.good = true → p.pln = true → p.size ≤ 10000 → BuildC w0 bb bv mb p := by
  induction p using Pat.by_size with | h p ih => ?_
  intro hg hp hs m c d ks w hc hd hst hk he ha hn
  have hse := size_eq p
  have hlen := length_sizes p.kids
  have hkb : KidsB w0 bb bv mb p := ⟨hg, hp, fun q hq => ih q hq (good_kid hg hq) (pln_kid hp hq) (by
    obtain ⟨i, hi, rfl⟩ := List.getElem_of_mem hq
    have := size_kid p.kids i hi; omega)⟩
  have hcnt := bld_n p hg hp m
  rw [cnt_eq] at hcnt
  have hop : 0 ≤ p.op ∧ p.op ≤ 5 := by
    have hg2 := hg
    rw [good_eq, Bool.and_eq_true] at hg2
    have h1 := of_decide_eq_true hg2.1
    exact ⟨h1.1, h1.2.1⟩
  have hno := pln_op hp
  have hdc : d = c + 1 := by omega
  have htn : m.two.n = m.n + 2 := rfl
  have hte : m.two.e.length = m.e.length := rfl
  have hta : m.two.a.length = m.a.length := rfl
  have hin := bld_inner p m
  rw [inner] at hin
  by_cases h0 : p.op = 0
  · rw [if_pos h0, hc, ← hdc] at hin
    refine build_walk w0 bb bv mb p m c d _ ks w hc hd hst hk (by omega) (.inl ⟨h0, rfl⟩) fun W hW => ?_
    rw [hin]
    exact setclo_any w0 bb bv mb p m.two c d ks W hW hk (by omega)
  by_cases h1 : p.op = 1
  · rw [if_neg h0, if_pos h1, hc, ← hdc] at hin
    rw [copies, if_neg (by omega), Nat.one_mul] at hcnt
    refine build_walk w0 bb bv mb p m c d _ ks w hc hd hst hk (by omega) (.inr (.inl ⟨h1, rfl⟩)) fun W hW => ?_
    rw [hin]
    exact catclo_any w0 bb bv mb p m.two c d ks W hW hk hkb hdc (by omega) (by omega) (by omega) (by omega) (by omega)
  by_cases h2 : p.op = 2
  · rw [if_neg h0, if_neg h1, if_pos h2, hc] at hin
    rw [copies, if_neg (by omega), Nat.one_mul] at hcnt
    refine build_walk w0 bb bv mb p m c d _ ks w hc hd hst hk (by omega) (.inr (.inr (.inl ⟨h2, rfl⟩))) fun W hW => ?_
    rw [hin]
    exact altclo_any w0 bb bv mb p m.two c d ks W hW hk hkb hdc (by omega) (by omega) (by omega) (by omega) (by omega)
  · have h3 : p.op = 3 := by omega
    refine build_walk w0 bb bv mb p m c d _ ks w hc hd hst hk (by omega) (.inr (.inr (.inr ⟨h3, rfl⟩))) fun W hW => ?_
    have hi2 : bld p m = inner p c m.two := by rw [bld_inner, hc]
    rw [hi2]
    exact repclo_any w0 bb bv mb p m.two c d ks W hW hk hkb hdc (by omega) (by omega) (by omega) h3 (by omega)
end Go.Proofs.YtpfhhdiipedklaaDoor
