/- Texts that a proof rests on: The contract of minim.goOn: the pairs behind a pair are visited. -/
import Derived.Test.YtamgldhnfcikbaaK10
set_option maxRecDepth 100000
namespace Go.Proofs.Ytamgldhnfcikbaa
open List (getElem_toArray getElem_cons_succ getElem_cons_zero setIfInBounds_toArray set_cons_zero set_cons_succ)
open Go.RowKit

theorem goes_three {P : Program} {ops : Array Oper} {Q : Exit → Act → World → Prop} {md : Region.Mode} {S : World → Prop} {z n i j k : Nat} {l : Array Bool} {a : Act} {w : World} {o o' o2 : Oper} (hr : Region.ready md ops l = [i, j, k]) (ho : ops[i]? = some o) (ho' : ops[j]? = some o') (ho2 : ops[k]? = some o2)
    (h : ∀ K' : Act → World → Prop, Shut (∀ a w, (i ≠ z → S w) → ((i ≠ z → S w) → Goes P md ops Q S z n (l.setIfInBounds i true) a w) → K' a w) → if Region.wanted o (yielded ops a.tmps) = true then Oper.wp P o a w K' Q else K' (a.put o.dst undef) w)
    (h' : ∀ K' : Act → World → Prop, Shut (∀ a w, (j ≠ z → S w) → ((j ≠ z → S w) → Goes P md ops Q S z n (l.setIfInBounds j true) a w) → K' a w) → if Region.wanted o' (yielded ops a.tmps) = true then Oper.wp P o' a w K' Q else K' (a.put o'.dst undef) w)
    (h2 : ∀ K' : Act → World → Prop, Shut (∀ a w, (k ≠ z → S w) → ((k ≠ z → S w) → Goes P md ops Q S z n (l.setIfInBounds k true) a w) → K' a w) → if Region.wanted o2 (yielded ops a.tmps) = true then Oper.wp P o2 a w K' Q else K' (a.put o2.dst undef) w) : Goes P md ops Q S z (n + 1) l a w := by
  refine ⟨fun h0 => (by rw [hr] at h0; cases h0), fun q hq => ?_⟩
  rw [hr, List.mem_cons, List.mem_cons, List.mem_singleton] at hq
  rcases hq with rfl | rfl | rfl
  · exact wpOp_step ho fun K' hK => h K' fun a w h1 h2 => hK a w ⟨h1, h2 h1⟩
  · exact wpOp_step ho' fun K' hK => h' K' fun a w h1 h2 => hK a w ⟨h1, h2 h1⟩
  · exact wpOp_step ho2 fun K' hK => h2 K' fun a w h1 h2 => hK a w ⟨h1, h2 h1⟩
theorem region_meet {P : Program} {id : Nat} {ops : Array Oper} {b : Bool} {K F : Act → World → Prop} {Q : Exit → Act → World → Prop} {a : Act} {w : World} (h : (Code.region id ops b).wp P (Exit.then F Q) a w)
    (k : ∀ a w, F a w → Exit.then K Q .normal a w) : (Code.region id ops b).wp P (Exit.then K Q) a w :=
  Code.wp_mono (fun e a w hq => by cases e <;> first | exact k _ _ hq | exact hq) h
structure AL (w1 W : World) (o1 o2 : Option Nat) : Prop where
  bel : Below w1.heap.size w1 W
  l : ∀ b, o1 = some b → w1.heap.size ≤ b ∧ IBlk W b fun _ => 0
  r : ∀ b, o2 = some b → w1.heap.size ≤ b ∧ IBlk W b fun _ => 0
  ne : ∀ b c, o1 = some b → o2 = some c → b ≠ c
theorem AL.call {w1 W W' : World} {o1 o2 : Option Nat} (h : AL w1 W o1 o2) (hb : Below W.heap.size W W') : AL w1 W' o1 o2 :=
  ⟨h.bel.trans (hb.mono h.bel.size), fun b e => ⟨(h.l b e).1, (h.l b e).2.below hb⟩, fun b e => ⟨(h.r b e).1, (h.r b e).2.below hb⟩, h.ne⟩
theorem AL.left {w1 W : World} {o2 : Option Nat} (h : AL w1 W none o2) : AL w1 (W.alloc (.cells (Ints fun _ => 0) 49)) (some W.heap.size) o2 := by
  have h2 := h.call (new_one W (.cells (Ints fun _ => 0) 49))
  refine ⟨h2.bel, fun b e => ?_, h2.r, fun b c e1 e2 => ?_⟩
  · cases e; exact ⟨h.bel.size, heap_alloc_new W _⟩
  · cases e1
    have := (h.r c e2).2.lt
    omega
theorem AL.right {w1 W : World} {o1 : Option Nat} (h : AL w1 W o1 none) : AL w1 (W.alloc (.cells (Ints fun _ => 0) 49)) o1 (some W.heap.size) := by
  have h2 := h.call (new_one W (.cells (Ints fun _ => 0) 49))
  refine ⟨h2.bel, h2.l, fun b e => ?_, fun b c e1 e2 => ?_⟩
  · cases e; exact ⟨h.bel.size, heap_alloc_new W _⟩
  · cases e2
    have := (h.l b e1).2.lt
    omega
theorem setRow_other (w : World) {b k : Nat} (cs : Array Value) (h : k ≠ b) : (w.setRow b cs).heap[k]? = w.heap[k]? := by
  show (w.heap.modify b _)[k]? = _
  rw [Array.getElem?_modify, if_neg (fun e => h e.symm)]
theorem wp_store_ints {op : Oper} {a : Act} {w : World} {K : Act → World → Prop} {Q : Exit → Act → World → Prop} (b : Nat) (f g : Nat → Int) (hb : IBlk w b f) (x y : Operand) (ho : op.op = .store 49 x y)
    (hx : a.eval x = .pointer (some ⟨b, 0, none⟩)) (hy : a.eval y = .agg (Ints g)) (h : K (a.put op.dst undef) (w.setRow b (Ints g))) : Oper.wp Try.prog op a w K Q := by
  unfold Oper.wp execOp
  simp only [ho, hx, hy, Instr.storeAt, Instr.sureAddr, Sem.run_bind, Sem.run_pure, Result.andThen_ok, store_ints hb]
  exact h
theorem runS_snoc (m : List Sta) (v : List Nat) (b : Nat) : runS m (v ++ [b]) = nextS m (runS m v) b := by
  rw [runS_start, run_append]; rfl
theorem at_range {m : List Sta} {s : Int} (h : At m s) {k : Nat} (hk : m.length ≤ k) : -1 ≤ s ∧ s < k + 1 := by
  rcases h with rfl | ⟨i, rfl, hi⟩ <;> omega
set_option linter.unusedSimpArgs false in
set_option maxHeartbeats 8000000 in
theorem goOn_any (m n : List Sta) (w0 : World) (N0 bw bs g cap bm B i : Nat) (a0 a1 : Option Addr) (c0 c1 : Nat) (vo : Value) (Q : List (List Nat)) (L : List ((Int × Int) × Value)) (A R r : Nat → Nat) (v : List Nat) (w : World)
    (hv : Hid (∀ wr, Below N0 w0 wr → MachAt wr (.slice a0 m.length c0) m)) (hu : Hid (∀ wr, Below N0 w0 wr → MachAt wr (.slice a1 n.length c1) n)) (hl0 : Hid (∀ s ∈ m, s.arcs.length < 9223372036854775808)) (hl1 : Hid (∀ s ∈ n, s.arcs.length < 9223372036854775808)) (hm0 : Hid (Mays m)) (hm1 : Hid (Mays n))
    (hf0 : Hid (∀ s ∈ m, fitsB m.length s.arcs = true)) (hf1 : Hid (∀ s ∈ n, fitsB n.length s.arcs = true)) (hsz : m.length + n.length < 9000) (hB : Hid (Below N0 w0 w)) (hN0 : N0 ≤ w0.heap.size) (hown : N0 ≤ bw ∧ N0 ≤ g ∧ N0 ≤ bm ∧ N0 ≤ B)
    (hS : Hid (St m n w bw bs g cap bm B (.slice a0 m.length c0) (.slice a1 n.length c1) vo Q L A R r i 0)) (hQ : Hid (Q[i]? = some v)) :
    Calls Try.prog 58 #[.pointer (some ⟨bw, 0, none⟩), .agg #[.int .i64 (runS m v), .int .i64 (runS n v)]] w fun e w' => e = .returned (.tuple #[]) ∧ Hid (Oth w w' (Own bw g bm vo)) ∧
      Hid (∃ vo' Q' L' A' R' r', (vo'.ownBlock = vo.ownBlock ∨ ∃ q, vo'.ownBlock = some q ∧ w.heap.size ≤ q) ∧ (∀ (j : Nat) (x : List Nat), Q[j]? = some x → Q'[j]? = some x) ∧ St m n w' bw bs g cap bm B (.slice a0 m.length c0) (.slice a1 n.length c1) vo' Q' L' A' R' r' i 256) := by
  have mixed : Try.prog.follows .mixedOrders = true := by kernel_rfl
  have Z := zero_ints
  obtain ⟨N, hN⟩ : ∃ N, w.heap.size = N := ⟨_, rfl⟩
  have hold := hS.out.ws.old
  have hbig := hS.out.ws.big
  have hsz0 := hB.out.size
  have HS0 := Lib.hid (run_at hf0.out v)
  have HS1 := Lib.hid (run_at hf1.out v)
  have HP := Lib.hid (show ∀ b, prT m n (v ++ [b]) = (nextS m (runS m v) b, nextS n (runS n v) b) from fun b => by unfold prT; rw [runS_snoc, runS_snoc])
  have HPV := Lib.hid (show prT m n v = (runS m v, runS n v) from rfl)
  obtain ⟨s0, hs0⟩ : ∃ s0, runS m v = s0 := ⟨_, rfl⟩
  obtain ⟨s1, hs1⟩ : ∃ s1, runS n v = s1 := ⟨_, rfl⟩
  rw [hs0, hs1] at HP HPV
  rw [hs0] at HS0
  rw [hs1] at HS1
  rw [hs0, hs1]
  clear hs0 hs1
  obtain ⟨w1, hw1⟩ : ∃ w1, w.alloc (.cells #[.int .i64 s0, .int .i64 s1] 92) = w1 := ⟨_, rfl⟩
  have hb1 : Below w.heap.size w w1 := by rw [← hw1]; exact new_one w _
  have hsz1 : w1.heap.size = N + 1 := by rw [← hw1]; simp [hN]
  have hx1 : w1.heap[N]? = some (.cells #[.int .i64 s0, .int .i64 s1] 92 (0, 0)) := by rw [← hw1, ← hN]; exact heap_alloc_new w _
  have HB1 := Lib.hid (hB.out.trans (hb1.mono (by omega)))
  have HTA := Lib.hid (show ∀ W : World, Below w1.heap.size w1 W → Calls Try.prog 44 #[.slice a0 m.length c0, .int .i64 s0] W fun e w' => e = .returned (.agg (Ints (nextS m s0))) ∧ Below W.heap.size W w' from fun W hW =>
    targets_any _ m s0 W (hv.out W (HB1.out.trans (hW.mono (by omega)))) hl0.out hm0.out HS0.out hf0.out)
  have HTB := Lib.hid (show ∀ W : World, Below w1.heap.size w1 W → Calls Try.prog 44 #[.slice a1 n.length c1, .int .i64 s1] W fun e w' => e = .returned (.agg (Ints (nextS n s1))) ∧ Below W.heap.size W w' from fun W hW =>
    targets_any _ n s1 W (hu.out W (HB1.out.trans (hW.mono (by omega)))) hl1.out hm1.out HS1.out hf1.out)
  have hw1S := hS.out.ws.below hb1
  have e0 : w1.drew.cell? ⟨bw, 0, none⟩ = some (.slice a0 m.length c0) := (cell_of_row w1 bw 0 _ _ _ hw1S.blk).trans rfl
  have e1 : w1.drew.cell? ⟨bw, 1, none⟩ = some (.slice a1 n.length c1) := (cell_of_row w1 bw 1 _ _ _ hw1S.blk).trans rfl
  have e2 : w1.drew.cell? ⟨N, 0, none⟩ = some (.int .i64 s0) := (cell_of_row w1 N 0 _ _ _ hx1).trans rfl
  have e3 : w1.drew.cell? ⟨N, 1, none⟩ = some (.int .i64 s1) := (cell_of_row w1 N 1 _ _ _ hx1).trans rfl
  have HX1 := Lib.hid hx1
  have HBW1 := Lib.hid hb1
  clear hw1S hx1 hb1 hB
  go_enter Try.func58, Try.ntmps58
  go_upto_region 1 with fail
  clear hw1
  refine region_meet (F := fun a W => ∃ bl br, a = ⟨#[.pointer (some ⟨bw, 0, none⟩), .agg #[.int .i64 s0, .int .i64 s1], undef, .pointer (some ⟨N, 0, none⟩), .pointer (some ⟨bl, 0, none⟩), .pointer (some ⟨br, 0, none⟩), undef, .pointer (some ⟨bw, 0, none⟩), .pointer (some ⟨bw, 0, none⟩), .pointer (some ⟨bw, 0, none⟩), .pointer (some ⟨bw, 0, none⟩), .slice a0 m.length c0, .pointer (some ⟨N, 0, none⟩), .int .i64 s0, .agg (Ints (nextS m s0)), .pointer (some ⟨bw, 0, none⟩), .pointer (some ⟨bw, 0, none⟩), .pointer (some ⟨bw, 0, none⟩), .pointer (some ⟨bw, 1, none⟩), .slice a1 n.length c1, .pointer (some ⟨N, 1, none⟩), .int .i64 s1, .agg (Ints (nextS n s1)), undef, undef, undef, undef, undef, undef, undef, undef, undef, undef, undef, undef, undef, undef, undef, undef, undef], []⟩ ∧ w1.heap.size ≤ bl ∧ w1.heap.size ≤ br ∧ bl ≠ br ∧ IBlk W bl (nextS m s0) ∧ IBlk W br (nextS n s1) ∧ Below w1.heap.size w1 W) ?_ ?_
  · skip
    refine region_goes 120 20 rfl (fun W => W.cell? ⟨bw, 0, none⟩ = some (.slice a0 m.length c0) ∧ W.cell? ⟨bw, 1, none⟩ = some (.slice a1 n.length c1) ∧ W.cell? ⟨N, 0, none⟩ = some (.int .i64 s0) ∧ W.cell? ⟨N, 1, none⟩ = some (.int .i64 s1)) mixed ⟨e0, e1, e2, e3⟩ (fun hHeld => ?_)
    clear e0 e1 e2 e3
    refine goes_take0 (i := 0) (v := ?hv1) rfl (by kernel_rfl) (by kernel_rfl) (by kernel_rfl) rfl (fun _ _ _ h => h) (Or.inl ⟨by rfl, ?hy1⟩) (by assumption) ?hr1
    case hy1 => (intro W9 hW9; obtain ⟨k0, k1, k2, k3⟩ := hW9; first | (go_simp; done) | (go_simp; with_reducible rfl))
    simp only [Act.put, getElem_toArray, getElem_cons_succ, getElem_cons_zero, setIfInBounds_toArray, set_cons_zero, set_cons_succ]
    refine goes_take0 (i := 1) (v := ?hv2) rfl (by kernel_rfl) (by kernel_rfl) (by kernel_rfl) rfl (fun _ _ _ h => h) (Or.inl ⟨by rfl, ?hy2⟩) (by assumption) ?hr2
    case hy2 => (intro W9 hW9; obtain ⟨k0, k1, k2, k3⟩ := hW9; first | (go_simp; done) | (go_simp; with_reducible rfl))
    simp only [Act.put, getElem_toArray, getElem_cons_succ, getElem_cons_zero, setIfInBounds_toArray, set_cons_zero, set_cons_succ]
    refine goes_take0 (i := 2) (v := ?hv3) rfl (by kernel_rfl) (by kernel_rfl) (by kernel_rfl) rfl (fun _ _ _ h => h) (Or.inl ⟨by rfl, ?hy3⟩) (by assumption) ?hr3
    case hy3 => (intro W9 hW9; obtain ⟨k0, k1, k2, k3⟩ := hW9; first | (go_simp; done) | (go_simp; with_reducible rfl))
    simp only [Act.put, getElem_toArray, getElem_cons_succ, getElem_cons_zero, setIfInBounds_toArray, set_cons_zero, set_cons_succ]
    refine goes_take0 (i := 3) (v := ?hv4) rfl (by kernel_rfl) (by kernel_rfl) (by kernel_rfl) rfl (fun _ _ _ h => h) (Or.inl ⟨by rfl, ?hy4⟩) (by assumption) ?hr4
    case hy4 => (intro W9 hW9; obtain ⟨k0, k1, k2, k3⟩ := hW9; first | (go_simp; done) | (go_simp; with_reducible rfl))
    simp only [Act.put, getElem_toArray, getElem_cons_succ, getElem_cons_zero, setIfInBounds_toArray, set_cons_zero, set_cons_succ]
    refine goes_take0 (i := 4) (v := ?hv5) rfl (by kernel_rfl) (by kernel_rfl) (by kernel_rfl) rfl (fun _ _ _ h => h) (Or.inl ⟨by rfl, ?hy5⟩) (by assumption) ?hr5
    case hy5 => (intro W9 hW9; obtain ⟨k0, k1, k2, k3⟩ := hW9; first | (go_simp; done) | (go_simp; with_reducible rfl))
    simp only [Act.put, getElem_toArray, getElem_cons_succ, getElem_cons_zero, setIfInBounds_toArray, set_cons_zero, set_cons_succ]
    refine goes_take0 (i := 5) (v := ?hv6) rfl (by kernel_rfl) (by kernel_rfl) (by kernel_rfl) rfl (fun _ _ _ h => h) (Or.inl ⟨by rfl, ?hy6⟩) (by assumption) ?hr6
    case hy6 => (intro W9 hW9; obtain ⟨k0, k1, k2, k3⟩ := hW9; first | (go_simp; done) | (go_simp; with_reducible rfl))
    simp only [Act.put, getElem_toArray, getElem_cons_succ, getElem_cons_zero, setIfInBounds_toArray, set_cons_zero, set_cons_succ]
    refine goes_take0 (i := 6) (v := ?hv7) rfl (by kernel_rfl) (by kernel_rfl) (by kernel_rfl) rfl (fun _ _ _ h => h) (Or.inl ⟨by rfl, ?hy7⟩) (by assumption) ?hr7
    case hy7 => (intro W9 hW9; obtain ⟨k0, k1, k2, k3⟩ := hW9; first | (go_simp; done) | (go_simp; with_reducible rfl))
    simp only [Act.put, getElem_toArray, getElem_cons_succ, getElem_cons_zero, setIfInBounds_toArray, set_cons_zero, set_cons_succ]
    refine goes_take0 (i := 8) (v := ?hv8) rfl (by kernel_rfl) (by kernel_rfl) (by kernel_rfl) rfl (fun _ _ _ h => h) (Or.inl ⟨by rfl, ?hy8⟩) (by assumption) ?hr8
    case hy8 => (intro W9 hW9; obtain ⟨k0, k1, k2, k3⟩ := hW9; first | (go_simp; done) | (go_simp; with_reducible rfl))
    simp only [Act.put, getElem_toArray, getElem_cons_succ, getElem_cons_zero, setIfInBounds_toArray, set_cons_zero, set_cons_succ]
    refine goes_take0 (i := 9) (v := ?hv9) rfl (by kernel_rfl) (by kernel_rfl) (by kernel_rfl) rfl (fun _ _ _ h => h) (Or.inl ⟨by rfl, ?hy9⟩) (by assumption) ?hr9
    case hy9 => (intro W9 hW9; obtain ⟨k0, k1, k2, k3⟩ := hW9; first | (go_simp; done) | (go_simp; with_reducible rfl))
    simp only [Act.put, getElem_toArray, getElem_cons_succ, getElem_cons_zero, setIfInBounds_toArray, set_cons_zero, set_cons_succ]
    refine goes_take0 (i := 10) (v := ?hv10) rfl (by kernel_rfl) (by kernel_rfl) (by kernel_rfl) rfl (fun _ _ _ h => h) (Or.inl ⟨by rfl, ?hy10⟩) (by assumption) ?hr10
    case hy10 => (intro W9 hW9; obtain ⟨k0, k1, k2, k3⟩ := hW9; first | (go_simp; done) | (go_simp; with_reducible rfl))
    simp only [Act.put, getElem_toArray, getElem_cons_succ, getElem_cons_zero, setIfInBounds_toArray, set_cons_zero, set_cons_succ]
    refine goes_take0 (i := 11) (v := ?hv11) rfl (by kernel_rfl) (by kernel_rfl) (by kernel_rfl) rfl (fun _ _ _ h => h) (Or.inl ⟨by rfl, ?hy11⟩) (by assumption) ?hr11
    case hy11 => (intro W9 hW9; obtain ⟨k0, k1, k2, k3⟩ := hW9; first | (go_simp; done) | (go_simp; with_reducible rfl))
    simp only [Act.put, getElem_toArray, getElem_cons_succ, getElem_cons_zero, setIfInBounds_toArray, set_cons_zero, set_cons_succ]
    refine goes_take0 (i := 12) (v := ?hv12) rfl (by kernel_rfl) (by kernel_rfl) (by kernel_rfl) rfl (fun _ _ _ h => h) (Or.inl ⟨by rfl, ?hy12⟩) (by assumption) ?hr12
    case hy12 => (intro W9 hW9; obtain ⟨k0, k1, k2, k3⟩ := hW9; first | (go_simp; done) | (go_simp; with_reducible rfl))
    simp only [Act.put, getElem_toArray, getElem_cons_succ, getElem_cons_zero, setIfInBounds_toArray, set_cons_zero, set_cons_succ]
    refine goes_take0 (i := 13) (v := ?hv13) rfl (by kernel_rfl) (by kernel_rfl) (by kernel_rfl) rfl (fun _ _ _ h => h) (Or.inl ⟨by rfl, ?hy13⟩) (by assumption) ?hr13
    case hy13 => (intro W9 hW9; obtain ⟨k0, k1, k2, k3⟩ := hW9; first | (go_simp; done) | (go_simp; with_reducible rfl))
    simp only [Act.put, getElem_toArray, getElem_cons_succ, getElem_cons_zero, setIfInBounds_toArray, set_cons_zero, set_cons_succ]
    refine goes_take0 (i := 14) (v := ?hv14) rfl (by kernel_rfl) (by kernel_rfl) (by kernel_rfl) rfl (fun _ _ _ h => h) (Or.inl ⟨by rfl, ?hy14⟩) (by assumption) ?hr14
    case hy14 => (intro W9 hW9; obtain ⟨k0, k1, k2, k3⟩ := hW9; first | (go_simp; done) | (go_simp; with_reducible rfl))
    simp only [Act.put, getElem_toArray, getElem_cons_succ, getElem_cons_zero, setIfInBounds_toArray, set_cons_zero, set_cons_succ]
    have hal : AL w1 w1.drew none none := ⟨(Below.refl w1.heap.size w1).drew, fun b e => (by cases e), fun b e => (by cases e), fun b c e => (by cases e)⟩
    generalize w1.drew = W0 at hal hHeld ⊢
    refine goes_three (i := 7) (j := 16) (k := 17) (by kernel_rfl) rfl rfl rfl (fun K9 hK9 => ?_) (fun K9 hK9 => ?_) (fun K9 hK9 => ?_)
    · skip
      go_simp
      with_reducible refine (HTA.out _ hal.bel).mono ?_
      rintro e W1 ⟨rfl, hb⟩
      replace hal := hal.call hb
      obtain ⟨k0, k1, k2, k3⟩ := hHeld
      refine hK9.out _ _ (fun _ => ⟨cell_below hb k0, cell_below hb k1, cell_below hb k2, cell_below hb k3⟩) (fun hHeld => ?_)
      have hHeld := hHeld (by decide)
      clear hK9 K9 k0 k1 k2 k3
      clear hb
      refine goes_three (i := 15) (j := 16) (k := 17) (by kernel_rfl) rfl rfl rfl (fun K9 hK9 => ?_) (fun K9 hK9 => ?_) (fun K9 hK9 => ?_)
      · skip
        go_simp
        with_reducible refine (HTB.out _ hal.bel).mono ?_
        rintro e W2 ⟨rfl, hb⟩
        replace hal := hal.call hb
        obtain ⟨k0, k1, k2, k3⟩ := hHeld
        refine hK9.out _ _ (fun _ => ⟨cell_below hb k0, cell_below hb k1, cell_below hb k2, cell_below hb k3⟩) (fun hHeld => ?_)
        have hHeld := hHeld (by decide)
        clear hK9 K9 k0 k1 k2 k3
        clear hb
        refine goes_two (i := 16) (j := 17) (by kernel_rfl) rfl rfl (fun K9 hK9 => ?_) (fun K9 hK9 => ?_)
        · skip
          go_simp
          have hb := new_one W2 (.cells (Ints fun _ => 0) 49)
          replace hal := hal.left
          obtain ⟨b3, hbn⟩ : ∃ z, W2.heap.size = z := ⟨_, rfl⟩
          obtain ⟨W3, hW⟩ : ∃ z, W2.alloc (.cells (Ints fun _ => 0) 49) = z := ⟨_, rfl⟩
          rw [hW] at hb hal
          rw [hbn] at hal
          try rw [zero_ints]
          try rw [hW]
          try rw [hbn]
          obtain ⟨k0, k1, k2, k3⟩ := hHeld
          refine hK9.out _ _ (fun _ => ⟨cell_below hb k0, cell_below hb k1, cell_below hb k2, cell_below hb k3⟩) (fun hHeld => ?_)
          have hHeld := hHeld (by decide)
          clear hK9 K9 k0 k1 k2 k3
          clear hb hW hbn
          refine goes_one (i := 17) (by kernel_rfl) rfl (fun K9 hK9 => ?_)
          go_simp
          have hb := new_one W3 (.cells (Ints fun _ => 0) 49)
          replace hal := hal.right
          obtain ⟨b4, hbn⟩ : ∃ z, W3.heap.size = z := ⟨_, rfl⟩
          obtain ⟨W4, hW⟩ : ∃ z, W3.alloc (.cells (Ints fun _ => 0) 49) = z := ⟨_, rfl⟩
          rw [hW] at hb hal
          rw [hbn] at hal
          try rw [zero_ints]
          try rw [hW]
          try rw [hbn]
          obtain ⟨k0, k1, k2, k3⟩ := hHeld
          refine hK9.out _ _ (fun _ => ⟨cell_below hb k0, cell_below hb k1, cell_below hb k2, cell_below hb k3⟩) (fun hHeld => ?_)
          have hHeld := hHeld (by decide)
          clear hK9 K9 k0 k1 k2 k3
          clear hb hW hbn
          have x1 := (hal.l _ rfl).2
          have x2 := (hal.r _ rfl).2
          have y1 := (hal.l _ rfl).1
          have y2 := (hal.r _ rfl).1
          have y3 := hal.ne _ _ rfl rfl
          have y4 := hal.bel
          have x3 := x1.setRow (g := nextS m s0)
          have x4 : IBlk (W4.setRow b3 (Ints (nextS m s0))) b4 (fun _ => 0) := (setRow_other W4 _ (fun e => y3 e.symm)).trans x2
          have x5 := x4.setRow (g := nextS n s1)
          have x6 : IBlk ((W4.setRow b3 (Ints (nextS m s0))).setRow b4 (Ints (nextS n s1))) b3 (nextS m s0) := (setRow_other _ _ y3).trans x3
          have y5 := below_setRow (below_setRow y4 y1 (Ints (nextS m s0))) y2 (Ints (nextS n s1))
          refine goes_one (i := 18) (by kernel_rfl) rfl (fun K9 hK9 => ?_)
          rw [if_pos (by rfl)]
          refine wp_store_ints b3 _ (nextS m s0) x1 _ _ rfl rfl rfl ?_
          obtain ⟨k0, k1, k2, k3⟩ := hHeld
          have q5 : ∀ {a : Addr} {u : Value} {W9 : World} {cs : Array Value}, W9.cell? a = some u → a.block ≠ b3 → (W9.setRow b3 cs).cell? a = some u := fun h hne => (World.cell?_of_block (setRow_other _ _ hne)).trans h
          refine hK9.out _ _ (fun _ => ⟨q5 k0 (by show bw ≠ _; omega), q5 k1 (by show bw ≠ _; omega), q5 k2 (by show N ≠ _; omega), q5 k3 (by show N ≠ _; omega)⟩) (fun hHeld => ?_)
          have hHeld := hHeld (by decide)
          clear hK9 K9 k0 k1 k2 k3 q5
          refine goes_one (i := 19) (by kernel_rfl) rfl (fun K9 hK9 => ?_)
          rw [if_pos (by rfl)]
          refine wp_store_ints b4 _ (nextS n s1) x4 _ _ rfl rfl rfl ?_
          obtain ⟨k0, k1, k2, k3⟩ := hHeld
          have q5 : ∀ {a : Addr} {u : Value} {W9 : World} {cs : Array Value}, W9.cell? a = some u → a.block ≠ b4 → (W9.setRow b4 cs).cell? a = some u := fun h hne => (World.cell?_of_block (setRow_other _ _ hne)).trans h
          refine hK9.out _ _ (fun _ => ⟨q5 k0 (by show bw ≠ _; omega), q5 k1 (by show bw ≠ _; omega), q5 k2 (by show N ≠ _; omega), q5 k3 (by show N ≠ _; omega)⟩) (fun hHeld => ?_)
          have hHeld := hHeld (by decide)
          clear hK9 K9 k0 k1 k2 k3 q5
          refine goes_done (by kernel_rfl) ?_ _
          exact ⟨b3, b4, rfl, y1, y2, y3, x6, x5, y5⟩
        · skip
          go_simp
          have hb := new_one W2 (.cells (Ints fun _ => 0) 49)
          replace hal := hal.right
          obtain ⟨b5, hbn⟩ : ∃ z, W2.heap.size = z := ⟨_, rfl⟩
          obtain ⟨W5, hW⟩ : ∃ z, W2.alloc (.cells (Ints fun _ => 0) 49) = z := ⟨_, rfl⟩
          rw [hW] at hb hal
          rw [hbn] at hal
          try rw [zero_ints]
          try rw [hW]
          try rw [hbn]
          obtain ⟨k0, k1, k2, k3⟩ := hHeld
          refine hK9.out _ _ (fun _ => ⟨cell_below hb k0, cell_below hb k1, cell_below hb k2, cell_below hb k3⟩) (fun hHeld => ?_)
          have hHeld := hHeld (by decide)
          clear hK9 K9 k0 k1 k2 k3
          clear hb hW hbn
          refine goes_one (i := 16) (by kernel_rfl) rfl (fun K9 hK9 => ?_)
          go_simp
          have hb := new_one W5 (.cells (Ints fun _ => 0) 49)
          replace hal := hal.left
          obtain ⟨b6, hbn⟩ : ∃ z, W5.heap.size = z := ⟨_, rfl⟩
          obtain ⟨W6, hW⟩ : ∃ z, W5.alloc (.cells (Ints fun _ => 0) 49) = z := ⟨_, rfl⟩
          rw [hW] at hb hal
          rw [hbn] at hal
          try rw [zero_ints]
          try rw [hW]
          try rw [hbn]
          obtain ⟨k0, k1, k2, k3⟩ := hHeld
          refine hK9.out _ _ (fun _ => ⟨cell_below hb k0, cell_below hb k1, cell_below hb k2, cell_below hb k3⟩) (fun hHeld => ?_)
          have hHeld := hHeld (by decide)
          clear hK9 K9 k0 k1 k2 k3
          clear hb hW hbn
          have x1 := (hal.l _ rfl).2
          have x2 := (hal.r _ rfl).2
          have y1 := (hal.l _ rfl).1
          have y2 := (hal.r _ rfl).1
          have y3 := hal.ne _ _ rfl rfl
          have y4 := hal.bel
          have x3 := x1.setRow (g := nextS m s0)
          have x4 : IBlk (W6.setRow b6 (Ints (nextS m s0))) b5 (fun _ => 0) := (setRow_other W6 _ (fun e => y3 e.symm)).trans x2
          have x5 := x4.setRow (g := nextS n s1)
          have x6 : IBlk ((W6.setRow b6 (Ints (nextS m s0))).setRow b5 (Ints (nextS n s1))) b6 (nextS m s0) := (setRow_other _ _ y3).trans x3
          have y5 := below_setRow (below_setRow y4 y1 (Ints (nextS m s0))) y2 (Ints (nextS n s1))
          refine goes_one (i := 18) (by kernel_rfl) rfl (fun K9 hK9 => ?_)
          rw [if_pos (by rfl)]
          refine wp_store_ints b6 _ (nextS m s0) x1 _ _ rfl rfl rfl ?_
          obtain ⟨k0, k1, k2, k3⟩ := hHeld
          have q5 : ∀ {a : Addr} {u : Value} {W9 : World} {cs : Array Value}, W9.cell? a = some u → a.block ≠ b6 → (W9.setRow b6 cs).cell? a = some u := fun h hne => (World.cell?_of_block (setRow_other _ _ hne)).trans h
          refine hK9.out _ _ (fun _ => ⟨q5 k0 (by show bw ≠ _; omega), q5 k1 (by show bw ≠ _; omega), q5 k2 (by show N ≠ _; omega), q5 k3 (by show N ≠ _; omega)⟩) (fun hHeld => ?_)
          have hHeld := hHeld (by decide)
          clear hK9 K9 k0 k1 k2 k3 q5
          refine goes_one (i := 19) (by kernel_rfl) rfl (fun K9 hK9 => ?_)
          rw [if_pos (by rfl)]
          refine wp_store_ints b5 _ (nextS n s1) x4 _ _ rfl rfl rfl ?_
          obtain ⟨k0, k1, k2, k3⟩ := hHeld
          have q5 : ∀ {a : Addr} {u : Value} {W9 : World} {cs : Array Value}, W9.cell? a = some u → a.block ≠ b5 → (W9.setRow b5 cs).cell? a = some u := fun h hne => (World.cell?_of_block (setRow_other _ _ hne)).trans h
          refine hK9.out _ _ (fun _ => ⟨q5 k0 (by show bw ≠ _; omega), q5 k1 (by show bw ≠ _; omega), q5 k2 (by show N ≠ _; omega), q5 k3 (by show N ≠ _; omega)⟩) (fun hHeld => ?_)
          have hHeld := hHeld (by decide)
          clear hK9 K9 k0 k1 k2 k3 q5
          refine goes_done (by kernel_rfl) ?_ _
          exact ⟨b6, b5, rfl, y1, y2, y3, x6, x5, y5⟩
      · skip
        go_simp
        have hb := new_one W1 (.cells (Ints fun _ => 0) 49)
        replace hal := hal.left
        obtain ⟨b7, hbn⟩ : ∃ z, W1.heap.size = z := ⟨_, rfl⟩
        obtain ⟨W7, hW⟩ : ∃ z, W1.alloc (.cells (Ints fun _ => 0) 49) = z := ⟨_, rfl⟩
        rw [hW] at hb hal
        rw [hbn] at hal
        try rw [zero_ints]
        try rw [hW]
        try rw [hbn]
        obtain ⟨k0, k1, k2, k3⟩ := hHeld
        refine hK9.out _ _ (fun _ => ⟨cell_below hb k0, cell_below hb k1, cell_below hb k2, cell_below hb k3⟩) (fun hHeld => ?_)
        have hHeld := hHeld (by decide)
        clear hK9 K9 k0 k1 k2 k3
        clear hb hW hbn
        refine goes_two (i := 15) (j := 17) (by kernel_rfl) rfl rfl (fun K9 hK9 => ?_) (fun K9 hK9 => ?_)
        · skip
          go_simp
          with_reducible refine (HTB.out _ hal.bel).mono ?_
          rintro e W8 ⟨rfl, hb⟩
          replace hal := hal.call hb
          obtain ⟨k0, k1, k2, k3⟩ := hHeld
          refine hK9.out _ _ (fun _ => ⟨cell_below hb k0, cell_below hb k1, cell_below hb k2, cell_below hb k3⟩) (fun hHeld => ?_)
          have hHeld := hHeld (by decide)
          clear hK9 K9 k0 k1 k2 k3
          clear hb
          refine goes_one (i := 17) (by kernel_rfl) rfl (fun K9 hK9 => ?_)
          go_simp
          have hb := new_one W8 (.cells (Ints fun _ => 0) 49)
          replace hal := hal.right
          obtain ⟨b9, hbn⟩ : ∃ z, W8.heap.size = z := ⟨_, rfl⟩
          obtain ⟨W9, hW⟩ : ∃ z, W8.alloc (.cells (Ints fun _ => 0) 49) = z := ⟨_, rfl⟩
          rw [hW] at hb hal
          rw [hbn] at hal
          try rw [zero_ints]
          try rw [hW]
          try rw [hbn]
          obtain ⟨k0, k1, k2, k3⟩ := hHeld
          refine hK9.out _ _ (fun _ => ⟨cell_below hb k0, cell_below hb k1, cell_below hb k2, cell_below hb k3⟩) (fun hHeld => ?_)
          have hHeld := hHeld (by decide)
          clear hK9 K9 k0 k1 k2 k3
          clear hb hW hbn
          have x1 := (hal.l _ rfl).2
          have x2 := (hal.r _ rfl).2
          have y1 := (hal.l _ rfl).1
          have y2 := (hal.r _ rfl).1
          have y3 := hal.ne _ _ rfl rfl
          have y4 := hal.bel
          have x3 := x1.setRow (g := nextS m s0)
          have x4 : IBlk (W9.setRow b7 (Ints (nextS m s0))) b9 (fun _ => 0) := (setRow_other W9 _ (fun e => y3 e.symm)).trans x2
          have x5 := x4.setRow (g := nextS n s1)
          have x6 : IBlk ((W9.setRow b7 (Ints (nextS m s0))).setRow b9 (Ints (nextS n s1))) b7 (nextS m s0) := (setRow_other _ _ y3).trans x3
          have y5 := below_setRow (below_setRow y4 y1 (Ints (nextS m s0))) y2 (Ints (nextS n s1))
          refine goes_one (i := 18) (by kernel_rfl) rfl (fun K9 hK9 => ?_)
          rw [if_pos (by rfl)]
          refine wp_store_ints b7 _ (nextS m s0) x1 _ _ rfl rfl rfl ?_
          obtain ⟨k0, k1, k2, k3⟩ := hHeld
          have q5 : ∀ {a : Addr} {u : Value} {W9 : World} {cs : Array Value}, W9.cell? a = some u → a.block ≠ b7 → (W9.setRow b7 cs).cell? a = some u := fun h hne => (World.cell?_of_block (setRow_other _ _ hne)).trans h
          refine hK9.out _ _ (fun _ => ⟨q5 k0 (by show bw ≠ _; omega), q5 k1 (by show bw ≠ _; omega), q5 k2 (by show N ≠ _; omega), q5 k3 (by show N ≠ _; omega)⟩) (fun hHeld => ?_)
          have hHeld := hHeld (by decide)
          clear hK9 K9 k0 k1 k2 k3 q5
          refine goes_one (i := 19) (by kernel_rfl) rfl (fun K9 hK9 => ?_)
          rw [if_pos (by rfl)]
          refine wp_store_ints b9 _ (nextS n s1) x4 _ _ rfl rfl rfl ?_
          obtain ⟨k0, k1, k2, k3⟩ := hHeld
          have q5 : ∀ {a : Addr} {u : Value} {W9 : World} {cs : Array Value}, W9.cell? a = some u → a.block ≠ b9 → (W9.setRow b9 cs).cell? a = some u := fun h hne => (World.cell?_of_block (setRow_other _ _ hne)).trans h
          refine hK9.out _ _ (fun _ => ⟨q5 k0 (by show bw ≠ _; omega), q5 k1 (by show bw ≠ _; omega), q5 k2 (by show N ≠ _; omega), q5 k3 (by show N ≠ _; omega)⟩) (fun hHeld => ?_)
          have hHeld := hHeld (by decide)
          clear hK9 K9 k0 k1 k2 k3 q5
          refine goes_done (by kernel_rfl) ?_ _
          exact ⟨b7, b9, rfl, y1, y2, y3, x6, x5, y5⟩
        · skip
          go_simp
          have hb := new_one W7 (.cells (Ints fun _ => 0) 49)
          replace hal := hal.right
          obtain ⟨b10, hbn⟩ : ∃ z, W7.heap.size = z := ⟨_, rfl⟩
          obtain ⟨W10, hW⟩ : ∃ z, W7.alloc (.cells (Ints fun _ => 0) 49) = z := ⟨_, rfl⟩
          rw [hW] at hb hal
          rw [hbn] at hal
          try rw [zero_ints]
          try rw [hW]
          try rw [hbn]
          obtain ⟨k0, k1, k2, k3⟩ := hHeld
          refine hK9.out _ _ (fun _ => ⟨cell_below hb k0, cell_below hb k1, cell_below hb k2, cell_below hb k3⟩) (fun hHeld => ?_)
          have hHeld := hHeld (by decide)
          clear hK9 K9 k0 k1 k2 k3
          clear hb hW hbn
          refine goes_one (i := 15) (by kernel_rfl) rfl (fun K9 hK9 => ?_)
          go_simp
          with_reducible refine (HTB.out _ hal.bel).mono ?_
          rintro e W11 ⟨rfl, hb⟩
          replace hal := hal.call hb
          obtain ⟨k0, k1, k2, k3⟩ := hHeld
          refine hK9.out _ _ (fun _ => ⟨cell_below hb k0, cell_below hb k1, cell_below hb k2, cell_below hb k3⟩) (fun hHeld => ?_)
          have hHeld := hHeld (by decide)
          clear hK9 K9 k0 k1 k2 k3
          clear hb
          have x1 := (hal.l _ rfl).2
          have x2 := (hal.r _ rfl).2
          have y1 := (hal.l _ rfl).1
          have y2 := (hal.r _ rfl).1
          have y3 := hal.ne _ _ rfl rfl
          have y4 := hal.bel
          have x3 := x1.setRow (g := nextS m s0)
          have x4 : IBlk (W11.setRow b7 (Ints (nextS m s0))) b10 (fun _ => 0) := (setRow_other W11 _ (fun e => y3 e.symm)).trans x2
          have x5 := x4.setRow (g := nextS n s1)
          have x6 : IBlk ((W11.setRow b7 (Ints (nextS m s0))).setRow b10 (Ints (nextS n s1))) b7 (nextS m s0) := (setRow_other _ _ y3).trans x3
          have y5 := below_setRow (below_setRow y4 y1 (Ints (nextS m s0))) y2 (Ints (nextS n s1))
          refine goes_one (i := 18) (by kernel_rfl) rfl (fun K9 hK9 => ?_)
          rw [if_pos (by rfl)]
          refine wp_store_ints b7 _ (nextS m s0) x1 _ _ rfl rfl rfl ?_
          obtain ⟨k0, k1, k2, k3⟩ := hHeld
          have q5 : ∀ {a : Addr} {u : Value} {W9 : World} {cs : Array Value}, W9.cell? a = some u → a.block ≠ b7 → (W9.setRow b7 cs).cell? a = some u := fun h hne => (World.cell?_of_block (setRow_other _ _ hne)).trans h
          refine hK9.out _ _ (fun _ => ⟨q5 k0 (by show bw ≠ _; omega), q5 k1 (by show bw ≠ _; omega), q5 k2 (by show N ≠ _; omega), q5 k3 (by show N ≠ _; omega)⟩) (fun hHeld => ?_)
          have hHeld := hHeld (by decide)
          clear hK9 K9 k0 k1 k2 k3 q5
          refine goes_one (i := 19) (by kernel_rfl) rfl (fun K9 hK9 => ?_)
          rw [if_pos (by rfl)]
          refine wp_store_ints b10 _ (nextS n s1) x4 _ _ rfl rfl rfl ?_
          obtain ⟨k0, k1, k2, k3⟩ := hHeld
          have q5 : ∀ {a : Addr} {u : Value} {W9 : World} {cs : Array Value}, W9.cell? a = some u → a.block ≠ b10 → (W9.setRow b10 cs).cell? a = some u := fun h hne => (World.cell?_of_block (setRow_other _ _ hne)).trans h
          refine hK9.out _ _ (fun _ => ⟨q5 k0 (by show bw ≠ _; omega), q5 k1 (by show bw ≠ _; omega), q5 k2 (by show N ≠ _; omega), q5 k3 (by show N ≠ _; omega)⟩) (fun hHeld => ?_)
          have hHeld := hHeld (by decide)
          clear hK9 K9 k0 k1 k2 k3 q5
          refine goes_done (by kernel_rfl) ?_ _
          exact ⟨b7, b10, rfl, y1, y2, y3, x6, x5, y5⟩
      · skip
        go_simp
        have hb := new_one W1 (.cells (Ints fun _ => 0) 49)
        replace hal := hal.right
        obtain ⟨b12, hbn⟩ : ∃ z, W1.heap.size = z := ⟨_, rfl⟩
        obtain ⟨W12, hW⟩ : ∃ z, W1.alloc (.cells (Ints fun _ => 0) 49) = z := ⟨_, rfl⟩
        rw [hW] at hb hal
        rw [hbn] at hal
        try rw [zero_ints]
        try rw [hW]
        try rw [hbn]
        obtain ⟨k0, k1, k2, k3⟩ := hHeld
        refine hK9.out _ _ (fun _ => ⟨cell_below hb k0, cell_below hb k1, cell_below hb k2, cell_below hb k3⟩) (fun hHeld => ?_)
        have hHeld := hHeld (by decide)
        clear hK9 K9 k0 k1 k2 k3
        clear hb hW hbn
        refine goes_two (i := 15) (j := 16) (by kernel_rfl) rfl rfl (fun K9 hK9 => ?_) (fun K9 hK9 => ?_)
        · skip
          go_simp
          with_reducible refine (HTB.out _ hal.bel).mono ?_
          rintro e W13 ⟨rfl, hb⟩
          replace hal := hal.call hb
          obtain ⟨k0, k1, k2, k3⟩ := hHeld
          refine hK9.out _ _ (fun _ => ⟨cell_below hb k0, cell_below hb k1, cell_below hb k2, cell_below hb k3⟩) (fun hHeld => ?_)
          have hHeld := hHeld (by decide)
          clear hK9 K9 k0 k1 k2 k3
          clear hb
          refine goes_one (i := 16) (by kernel_rfl) rfl (fun K9 hK9 => ?_)
          go_simp
          have hb := new_one W13 (.cells (Ints fun _ => 0) 49)
          replace hal := hal.left
          obtain ⟨b14, hbn⟩ : ∃ z, W13.heap.size = z := ⟨_, rfl⟩
          obtain ⟨W14, hW⟩ : ∃ z, W13.alloc (.cells (Ints fun _ => 0) 49) = z := ⟨_, rfl⟩
          rw [hW] at hb hal
          rw [hbn] at hal
          try rw [zero_ints]
          try rw [hW]
          try rw [hbn]
          obtain ⟨k0, k1, k2, k3⟩ := hHeld
          refine hK9.out _ _ (fun _ => ⟨cell_below hb k0, cell_below hb k1, cell_below hb k2, cell_below hb k3⟩) (fun hHeld => ?_)
          have hHeld := hHeld (by decide)
          clear hK9 K9 k0 k1 k2 k3
          clear hb hW hbn
          have x1 := (hal.l _ rfl).2
          have x2 := (hal.r _ rfl).2
          have y1 := (hal.l _ rfl).1
          have y2 := (hal.r _ rfl).1
          have y3 := hal.ne _ _ rfl rfl
          have y4 := hal.bel
          have x3 := x1.setRow (g := nextS m s0)
          have x4 : IBlk (W14.setRow b14 (Ints (nextS m s0))) b12 (fun _ => 0) := (setRow_other W14 _ (fun e => y3 e.symm)).trans x2
          have x5 := x4.setRow (g := nextS n s1)
          have x6 : IBlk ((W14.setRow b14 (Ints (nextS m s0))).setRow b12 (Ints (nextS n s1))) b14 (nextS m s0) := (setRow_other _ _ y3).trans x3
          have y5 := below_setRow (below_setRow y4 y1 (Ints (nextS m s0))) y2 (Ints (nextS n s1))
          refine goes_one (i := 18) (by kernel_rfl) rfl (fun K9 hK9 => ?_)
          rw [if_pos (by rfl)]
          refine wp_store_ints b14 _ (nextS m s0) x1 _ _ rfl rfl rfl ?_
          obtain ⟨k0, k1, k2, k3⟩ := hHeld
          have q5 : ∀ {a : Addr} {u : Value} {W9 : World} {cs : Array Value}, W9.cell? a = some u → a.block ≠ b14 → (W9.setRow b14 cs).cell? a = some u := fun h hne => (World.cell?_of_block (setRow_other _ _ hne)).trans h
          refine hK9.out _ _ (fun _ => ⟨q5 k0 (by show bw ≠ _; omega), q5 k1 (by show bw ≠ _; omega), q5 k2 (by show N ≠ _; omega), q5 k3 (by show N ≠ _; omega)⟩) (fun hHeld => ?_)
          have hHeld := hHeld (by decide)
          clear hK9 K9 k0 k1 k2 k3 q5
          refine goes_one (i := 19) (by kernel_rfl) rfl (fun K9 hK9 => ?_)
          rw [if_pos (by rfl)]
          refine wp_store_ints b12 _ (nextS n s1) x4 _ _ rfl rfl rfl ?_
          obtain ⟨k0, k1, k2, k3⟩ := hHeld
          have q5 : ∀ {a : Addr} {u : Value} {W9 : World} {cs : Array Value}, W9.cell? a = some u → a.block ≠ b12 → (W9.setRow b12 cs).cell? a = some u := fun h hne => (World.cell?_of_block (setRow_other _ _ hne)).trans h
          refine hK9.out _ _ (fun _ => ⟨q5 k0 (by show bw ≠ _; omega), q5 k1 (by show bw ≠ _; omega), q5 k2 (by show N ≠ _; omega), q5 k3 (by show N ≠ _; omega)⟩) (fun hHeld => ?_)
          have hHeld := hHeld (by decide)
          clear hK9 K9 k0 k1 k2 k3 q5
          refine goes_done (by kernel_rfl) ?_ _
          exact ⟨b14, b12, rfl, y1, y2, y3, x6, x5, y5⟩
        · skip
          go_simp
          have hb := new_one W12 (.cells (Ints fun _ => 0) 49)
          replace hal := hal.left
          obtain ⟨b15, hbn⟩ : ∃ z, W12.heap.size = z := ⟨_, rfl⟩
          obtain ⟨W15, hW⟩ : ∃ z, W12.alloc (.cells (Ints fun _ => 0) 49) = z := ⟨_, rfl⟩
          rw [hW] at hb hal
          rw [hbn] at hal
          try rw [zero_ints]
          try rw [hW]
          try rw [hbn]
          obtain ⟨k0, k1, k2, k3⟩ := hHeld
          refine hK9.out _ _ (fun _ => ⟨cell_below hb k0, cell_below hb k1, cell_below hb k2, cell_below hb k3⟩) (fun hHeld => ?_)
          have hHeld := hHeld (by decide)
          clear hK9 K9 k0 k1 k2 k3
          clear hb hW hbn
          refine goes_one (i := 15) (by kernel_rfl) rfl (fun K9 hK9 => ?_)
          go_simp
          with_reducible refine (HTB.out _ hal.bel).mono ?_
          rintro e W16 ⟨rfl, hb⟩
          replace hal := hal.call hb
          obtain ⟨k0, k1, k2, k3⟩ := hHeld
          refine hK9.out _ _ (fun _ => ⟨cell_below hb k0, cell_below hb k1, cell_below hb k2, cell_below hb k3⟩) (fun hHeld => ?_)
          have hHeld := hHeld (by decide)
          clear hK9 K9 k0 k1 k2 k3
          clear hb
          have x1 := (hal.l _ rfl).2
          have x2 := (hal.r _ rfl).2
          have y1 := (hal.l _ rfl).1
          have y2 := (hal.r _ rfl).1
          have y3 := hal.ne _ _ rfl rfl
          have y4 := hal.bel
          have x3 := x1.setRow (g := nextS m s0)
          have x4 : IBlk (W16.setRow b15 (Ints (nextS m s0))) b12 (fun _ => 0) := (setRow_other W16 _ (fun e => y3 e.symm)).trans x2
          have x5 := x4.setRow (g := nextS n s1)
          have x6 : IBlk ((W16.setRow b15 (Ints (nextS m s0))).setRow b12 (Ints (nextS n s1))) b15 (nextS m s0) := (setRow_other _ _ y3).trans x3
          have y5 := below_setRow (below_setRow y4 y1 (Ints (nextS m s0))) y2 (Ints (nextS n s1))
          refine goes_one (i := 18) (by kernel_rfl) rfl (fun K9 hK9 => ?_)
          rw [if_pos (by rfl)]
          refine wp_store_ints b15 _ (nextS m s0) x1 _ _ rfl rfl rfl ?_
          obtain ⟨k0, k1, k2, k3⟩ := hHeld
          have q5 : ∀ {a : Addr} {u : Value} {W9 : World} {cs : Array Value}, W9.cell? a = some u → a.block ≠ b15 → (W9.setRow b15 cs).cell? a = some u := fun h hne => (World.cell?_of_block (setRow_other _ _ hne)).trans h
          refine hK9.out _ _ (fun _ => ⟨q5 k0 (by show bw ≠ _; omega), q5 k1 (by show bw ≠ _; omega), q5 k2 (by show N ≠ _; omega), q5 k3 (by show N ≠ _; omega)⟩) (fun hHeld => ?_)
          have hHeld := hHeld (by decide)
          clear hK9 K9 k0 k1 k2 k3 q5
          refine goes_one (i := 19) (by kernel_rfl) rfl (fun K9 hK9 => ?_)
          rw [if_pos (by rfl)]
          refine wp_store_ints b12 _ (nextS n s1) x4 _ _ rfl rfl rfl ?_
          obtain ⟨k0, k1, k2, k3⟩ := hHeld
          have q5 : ∀ {a : Addr} {u : Value} {W9 : World} {cs : Array Value}, W9.cell? a = some u → a.block ≠ b12 → (W9.setRow b12 cs).cell? a = some u := fun h hne => (World.cell?_of_block (setRow_other _ _ hne)).trans h
          refine hK9.out _ _ (fun _ => ⟨q5 k0 (by show bw ≠ _; omega), q5 k1 (by show bw ≠ _; omega), q5 k2 (by show N ≠ _; omega), q5 k3 (by show N ≠ _; omega)⟩) (fun hHeld => ?_)
          have hHeld := hHeld (by decide)
          clear hK9 K9 k0 k1 k2 k3 q5
          refine goes_done (by kernel_rfl) ?_ _
          exact ⟨b15, b12, rfl, y1, y2, y3, x6, x5, y5⟩
    · skip
      go_simp
      have hb := new_one W0 (.cells (Ints fun _ => 0) 49)
      replace hal := hal.left
      obtain ⟨b17, hbn⟩ : ∃ z, W0.heap.size = z := ⟨_, rfl⟩
      obtain ⟨W17, hW⟩ : ∃ z, W0.alloc (.cells (Ints fun _ => 0) 49) = z := ⟨_, rfl⟩
      rw [hW] at hb hal
      rw [hbn] at hal
      try rw [zero_ints]
      try rw [hW]
      try rw [hbn]
      obtain ⟨k0, k1, k2, k3⟩ := hHeld
      refine hK9.out _ _ (fun _ => ⟨cell_below hb k0, cell_below hb k1, cell_below hb k2, cell_below hb k3⟩) (fun hHeld => ?_)
      have hHeld := hHeld (by decide)
      clear hK9 K9 k0 k1 k2 k3
      clear hb hW hbn
      refine goes_two (i := 7) (j := 17) (by kernel_rfl) rfl rfl (fun K9 hK9 => ?_) (fun K9 hK9 => ?_)
      · skip
        go_simp
        with_reducible refine (HTA.out _ hal.bel).mono ?_
        rintro e W18 ⟨rfl, hb⟩
        replace hal := hal.call hb
        obtain ⟨k0, k1, k2, k3⟩ := hHeld
        refine hK9.out _ _ (fun _ => ⟨cell_below hb k0, cell_below hb k1, cell_below hb k2, cell_below hb k3⟩) (fun hHeld => ?_)
        have hHeld := hHeld (by decide)
        clear hK9 K9 k0 k1 k2 k3
        clear hb
        refine goes_two (i := 15) (j := 17) (by kernel_rfl) rfl rfl (fun K9 hK9 => ?_) (fun K9 hK9 => ?_)
        · skip
          go_simp
          with_reducible refine (HTB.out _ hal.bel).mono ?_
          rintro e W19 ⟨rfl, hb⟩
          replace hal := hal.call hb
          obtain ⟨k0, k1, k2, k3⟩ := hHeld
          refine hK9.out _ _ (fun _ => ⟨cell_below hb k0, cell_below hb k1, cell_below hb k2, cell_below hb k3⟩) (fun hHeld => ?_)
          have hHeld := hHeld (by decide)
          clear hK9 K9 k0 k1 k2 k3
          clear hb
          refine goes_one (i := 17) (by kernel_rfl) rfl (fun K9 hK9 => ?_)
          go_simp
          have hb := new_one W19 (.cells (Ints fun _ => 0) 49)
          replace hal := hal.right
          obtain ⟨b20, hbn⟩ : ∃ z, W19.heap.size = z := ⟨_, rfl⟩
          obtain ⟨W20, hW⟩ : ∃ z, W19.alloc (.cells (Ints fun _ => 0) 49) = z := ⟨_, rfl⟩
          rw [hW] at hb hal
          rw [hbn] at hal
          try rw [zero_ints]
          try rw [hW]
          try rw [hbn]
          obtain ⟨k0, k1, k2, k3⟩ := hHeld
          refine hK9.out _ _ (fun _ => ⟨cell_below hb k0, cell_below hb k1, cell_below hb k2, cell_below hb k3⟩) (fun hHeld => ?_)
          have hHeld := hHeld (by decide)
          clear hK9 K9 k0 k1 k2 k3
          clear hb hW hbn
          have x1 := (hal.l _ rfl).2
          have x2 := (hal.r _ rfl).2
          have y1 := (hal.l _ rfl).1
          have y2 := (hal.r _ rfl).1
          have y3 := hal.ne _ _ rfl rfl
          have y4 := hal.bel
          have x3 := x1.setRow (g := nextS m s0)
          have x4 : IBlk (W20.setRow b17 (Ints (nextS m s0))) b20 (fun _ => 0) := (setRow_other W20 _ (fun e => y3 e.symm)).trans x2
          have x5 := x4.setRow (g := nextS n s1)
          have x6 : IBlk ((W20.setRow b17 (Ints (nextS m s0))).setRow b20 (Ints (nextS n s1))) b17 (nextS m s0) := (setRow_other _ _ y3).trans x3
          have y5 := below_setRow (below_setRow y4 y1 (Ints (nextS m s0))) y2 (Ints (nextS n s1))
          refine goes_one (i := 18) (by kernel_rfl) rfl (fun K9 hK9 => ?_)
          rw [if_pos (by rfl)]
          refine wp_store_ints b17 _ (nextS m s0) x1 _ _ rfl rfl rfl ?_
          obtain ⟨k0, k1, k2, k3⟩ := hHeld
          have q5 : ∀ {a : Addr} {u : Value} {W9 : World} {cs : Array Value}, W9.cell? a = some u → a.block ≠ b17 → (W9.setRow b17 cs).cell? a = some u := fun h hne => (World.cell?_of_block (setRow_other _ _ hne)).trans h
          refine hK9.out _ _ (fun _ => ⟨q5 k0 (by show bw ≠ _; omega), q5 k1 (by show bw ≠ _; omega), q5 k2 (by show N ≠ _; omega), q5 k3 (by show N ≠ _; omega)⟩) (fun hHeld => ?_)
          have hHeld := hHeld (by decide)
          clear hK9 K9 k0 k1 k2 k3 q5
          refine goes_one (i := 19) (by kernel_rfl) rfl (fun K9 hK9 => ?_)
          rw [if_pos (by rfl)]
          refine wp_store_ints b20 _ (nextS n s1) x4 _ _ rfl rfl rfl ?_
          obtain ⟨k0, k1, k2, k3⟩ := hHeld
          have q5 : ∀ {a : Addr} {u : Value} {W9 : World} {cs : Array Value}, W9.cell? a = some u → a.block ≠ b20 → (W9.setRow b20 cs).cell? a = some u := fun h hne => (World.cell?_of_block (setRow_other _ _ hne)).trans h
          refine hK9.out _ _ (fun _ => ⟨q5 k0 (by show bw ≠ _; omega), q5 k1 (by show bw ≠ _; omega), q5 k2 (by show N ≠ _; omega), q5 k3 (by show N ≠ _; omega)⟩) (fun hHeld => ?_)
          have hHeld := hHeld (by decide)
          clear hK9 K9 k0 k1 k2 k3 q5
          refine goes_done (by kernel_rfl) ?_ _
          exact ⟨b17, b20, rfl, y1, y2, y3, x6, x5, y5⟩
        · skip
          go_simp
          have hb := new_one W18 (.cells (Ints fun _ => 0) 49)
          replace hal := hal.right
          obtain ⟨b21, hbn⟩ : ∃ z, W18.heap.size = z := ⟨_, rfl⟩
          obtain ⟨W21, hW⟩ : ∃ z, W18.alloc (.cells (Ints fun _ => 0) 49) = z := ⟨_, rfl⟩
          rw [hW] at hb hal
          rw [hbn] at hal
          try rw [zero_ints]
          try rw [hW]
          try rw [hbn]
          obtain ⟨k0, k1, k2, k3⟩ := hHeld
          refine hK9.out _ _ (fun _ => ⟨cell_below hb k0, cell_below hb k1, cell_below hb k2, cell_below hb k3⟩) (fun hHeld => ?_)
          have hHeld := hHeld (by decide)
          clear hK9 K9 k0 k1 k2 k3
          clear hb hW hbn
          refine goes_one (i := 15) (by kernel_rfl) rfl (fun K9 hK9 => ?_)
          go_simp
          with_reducible refine (HTB.out _ hal.bel).mono ?_
          rintro e W22 ⟨rfl, hb⟩
          replace hal := hal.call hb
          obtain ⟨k0, k1, k2, k3⟩ := hHeld
          refine hK9.out _ _ (fun _ => ⟨cell_below hb k0, cell_below hb k1, cell_below hb k2, cell_below hb k3⟩) (fun hHeld => ?_)
          have hHeld := hHeld (by decide)
          clear hK9 K9 k0 k1 k2 k3
          clear hb
          have x1 := (hal.l _ rfl).2
          have x2 := (hal.r _ rfl).2
          have y1 := (hal.l _ rfl).1
          have y2 := (hal.r _ rfl).1
          have y3 := hal.ne _ _ rfl rfl
          have y4 := hal.bel
          have x3 := x1.setRow (g := nextS m s0)
          have x4 : IBlk (W22.setRow b17 (Ints (nextS m s0))) b21 (fun _ => 0) := (setRow_other W22 _ (fun e => y3 e.symm)).trans x2
          have x5 := x4.setRow (g := nextS n s1)
          have x6 : IBlk ((W22.setRow b17 (Ints (nextS m s0))).setRow b21 (Ints (nextS n s1))) b17 (nextS m s0) := (setRow_other _ _ y3).trans x3
          have y5 := below_setRow (below_setRow y4 y1 (Ints (nextS m s0))) y2 (Ints (nextS n s1))
          refine goes_one (i := 18) (by kernel_rfl) rfl (fun K9 hK9 => ?_)
          rw [if_pos (by rfl)]
          refine wp_store_ints b17 _ (nextS m s0) x1 _ _ rfl rfl rfl ?_
          obtain ⟨k0, k1, k2, k3⟩ := hHeld
          have q5 : ∀ {a : Addr} {u : Value} {W9 : World} {cs : Array Value}, W9.cell? a = some u → a.block ≠ b17 → (W9.setRow b17 cs).cell? a = some u := fun h hne => (World.cell?_of_block (setRow_other _ _ hne)).trans h
          refine hK9.out _ _ (fun _ => ⟨q5 k0 (by show bw ≠ _; omega), q5 k1 (by show bw ≠ _; omega), q5 k2 (by show N ≠ _; omega), q5 k3 (by show N ≠ _; omega)⟩) (fun hHeld => ?_)
          have hHeld := hHeld (by decide)
          clear hK9 K9 k0 k1 k2 k3 q5
          refine goes_one (i := 19) (by kernel_rfl) rfl (fun K9 hK9 => ?_)
          rw [if_pos (by rfl)]
          refine wp_store_ints b21 _ (nextS n s1) x4 _ _ rfl rfl rfl ?_
          obtain ⟨k0, k1, k2, k3⟩ := hHeld
          have q5 : ∀ {a : Addr} {u : Value} {W9 : World} {cs : Array Value}, W9.cell? a = some u → a.block ≠ b21 → (W9.setRow b21 cs).cell? a = some u := fun h hne => (World.cell?_of_block (setRow_other _ _ hne)).trans h
          refine hK9.out _ _ (fun _ => ⟨q5 k0 (by show bw ≠ _; omega), q5 k1 (by show bw ≠ _; omega), q5 k2 (by show N ≠ _; omega), q5 k3 (by show N ≠ _; omega)⟩) (fun hHeld => ?_)
          have hHeld := hHeld (by decide)
          clear hK9 K9 k0 k1 k2 k3 q5
          refine goes_done (by kernel_rfl) ?_ _
          exact ⟨b17, b21, rfl, y1, y2, y3, x6, x5, y5⟩
      · skip
        go_simp
        have hb := new_one W17 (.cells (Ints fun _ => 0) 49)
        replace hal := hal.right
        obtain ⟨b23, hbn⟩ : ∃ z, W17.heap.size = z := ⟨_, rfl⟩
        obtain ⟨W23, hW⟩ : ∃ z, W17.alloc (.cells (Ints fun _ => 0) 49) = z := ⟨_, rfl⟩
        rw [hW] at hb hal
        rw [hbn] at hal
        try rw [zero_ints]
        try rw [hW]
        try rw [hbn]
        obtain ⟨k0, k1, k2, k3⟩ := hHeld
        refine hK9.out _ _ (fun _ => ⟨cell_below hb k0, cell_below hb k1, cell_below hb k2, cell_below hb k3⟩) (fun hHeld => ?_)
        have hHeld := hHeld (by decide)
        clear hK9 K9 k0 k1 k2 k3
        clear hb hW hbn
        refine goes_one (i := 7) (by kernel_rfl) rfl (fun K9 hK9 => ?_)
        go_simp
        with_reducible refine (HTA.out _ hal.bel).mono ?_
        rintro e W24 ⟨rfl, hb⟩
        replace hal := hal.call hb
        obtain ⟨k0, k1, k2, k3⟩ := hHeld
        refine hK9.out _ _ (fun _ => ⟨cell_below hb k0, cell_below hb k1, cell_below hb k2, cell_below hb k3⟩) (fun hHeld => ?_)
        have hHeld := hHeld (by decide)
        clear hK9 K9 k0 k1 k2 k3
        clear hb
        refine goes_one (i := 15) (by kernel_rfl) rfl (fun K9 hK9 => ?_)
        go_simp
        with_reducible refine (HTB.out _ hal.bel).mono ?_
        rintro e W25 ⟨rfl, hb⟩
        replace hal := hal.call hb
        obtain ⟨k0, k1, k2, k3⟩ := hHeld
        refine hK9.out _ _ (fun _ => ⟨cell_below hb k0, cell_below hb k1, cell_below hb k2, cell_below hb k3⟩) (fun hHeld => ?_)
        have hHeld := hHeld (by decide)
        clear hK9 K9 k0 k1 k2 k3
        clear hb
        have x1 := (hal.l _ rfl).2
        have x2 := (hal.r _ rfl).2
        have y1 := (hal.l _ rfl).1
        have y2 := (hal.r _ rfl).1
        have y3 := hal.ne _ _ rfl rfl
        have y4 := hal.bel
        have x3 := x1.setRow (g := nextS m s0)
        have x4 : IBlk (W25.setRow b17 (Ints (nextS m s0))) b23 (fun _ => 0) := (setRow_other W25 _ (fun e => y3 e.symm)).trans x2
        have x5 := x4.setRow (g := nextS n s1)
        have x6 : IBlk ((W25.setRow b17 (Ints (nextS m s0))).setRow b23 (Ints (nextS n s1))) b17 (nextS m s0) := (setRow_other _ _ y3).trans x3
        have y5 := below_setRow (below_setRow y4 y1 (Ints (nextS m s0))) y2 (Ints (nextS n s1))
        refine goes_one (i := 18) (by kernel_rfl) rfl (fun K9 hK9 => ?_)
        rw [if_pos (by rfl)]
        refine wp_store_ints b17 _ (nextS m s0) x1 _ _ rfl rfl rfl ?_
        obtain ⟨k0, k1, k2, k3⟩ := hHeld
        have q5 : ∀ {a : Addr} {u : Value} {W9 : World} {cs : Array Value}, W9.cell? a = some u → a.block ≠ b17 → (W9.setRow b17 cs).cell? a = some u := fun h hne => (World.cell?_of_block (setRow_other _ _ hne)).trans h
        refine hK9.out _ _ (fun _ => ⟨q5 k0 (by show bw ≠ _; omega), q5 k1 (by show bw ≠ _; omega), q5 k2 (by show N ≠ _; omega), q5 k3 (by show N ≠ _; omega)⟩) (fun hHeld => ?_)
        have hHeld := hHeld (by decide)
        clear hK9 K9 k0 k1 k2 k3 q5
        refine goes_one (i := 19) (by kernel_rfl) rfl (fun K9 hK9 => ?_)
        rw [if_pos (by rfl)]
        refine wp_store_ints b23 _ (nextS n s1) x4 _ _ rfl rfl rfl ?_
        obtain ⟨k0, k1, k2, k3⟩ := hHeld
        have q5 : ∀ {a : Addr} {u : Value} {W9 : World} {cs : Array Value}, W9.cell? a = some u → a.block ≠ b23 → (W9.setRow b23 cs).cell? a = some u := fun h hne => (World.cell?_of_block (setRow_other _ _ hne)).trans h
        refine hK9.out _ _ (fun _ => ⟨q5 k0 (by show bw ≠ _; omega), q5 k1 (by show bw ≠ _; omega), q5 k2 (by show N ≠ _; omega), q5 k3 (by show N ≠ _; omega)⟩) (fun hHeld => ?_)
        have hHeld := hHeld (by decide)
        clear hK9 K9 k0 k1 k2 k3 q5
        refine goes_done (by kernel_rfl) ?_ _
        exact ⟨b17, b23, rfl, y1, y2, y3, x6, x5, y5⟩
    · skip
      go_simp
      have hb := new_one W0 (.cells (Ints fun _ => 0) 49)
      replace hal := hal.right
      obtain ⟨b26, hbn⟩ : ∃ z, W0.heap.size = z := ⟨_, rfl⟩
      obtain ⟨W26, hW⟩ : ∃ z, W0.alloc (.cells (Ints fun _ => 0) 49) = z := ⟨_, rfl⟩
      rw [hW] at hb hal
      rw [hbn] at hal
      try rw [zero_ints]
      try rw [hW]
      try rw [hbn]
      obtain ⟨k0, k1, k2, k3⟩ := hHeld
      refine hK9.out _ _ (fun _ => ⟨cell_below hb k0, cell_below hb k1, cell_below hb k2, cell_below hb k3⟩) (fun hHeld => ?_)
      have hHeld := hHeld (by decide)
      clear hK9 K9 k0 k1 k2 k3
      clear hb hW hbn
      refine goes_two (i := 7) (j := 16) (by kernel_rfl) rfl rfl (fun K9 hK9 => ?_) (fun K9 hK9 => ?_)
      · skip
        go_simp
        with_reducible refine (HTA.out _ hal.bel).mono ?_
        rintro e W27 ⟨rfl, hb⟩
        replace hal := hal.call hb
        obtain ⟨k0, k1, k2, k3⟩ := hHeld
        refine hK9.out _ _ (fun _ => ⟨cell_below hb k0, cell_below hb k1, cell_below hb k2, cell_below hb k3⟩) (fun hHeld => ?_)
        have hHeld := hHeld (by decide)
        clear hK9 K9 k0 k1 k2 k3
        clear hb
        refine goes_two (i := 15) (j := 16) (by kernel_rfl) rfl rfl (fun K9 hK9 => ?_) (fun K9 hK9 => ?_)
        · skip
          go_simp
          with_reducible refine (HTB.out _ hal.bel).mono ?_
          rintro e W28 ⟨rfl, hb⟩
          replace hal := hal.call hb
          obtain ⟨k0, k1, k2, k3⟩ := hHeld
          refine hK9.out _ _ (fun _ => ⟨cell_below hb k0, cell_below hb k1, cell_below hb k2, cell_below hb k3⟩) (fun hHeld => ?_)
          have hHeld := hHeld (by decide)
          clear hK9 K9 k0 k1 k2 k3
          clear hb
          refine goes_one (i := 16) (by kernel_rfl) rfl (fun K9 hK9 => ?_)
          go_simp
          have hb := new_one W28 (.cells (Ints fun _ => 0) 49)
          replace hal := hal.left
          obtain ⟨b29, hbn⟩ : ∃ z, W28.heap.size = z := ⟨_, rfl⟩
          obtain ⟨W29, hW⟩ : ∃ z, W28.alloc (.cells (Ints fun _ => 0) 49) = z := ⟨_, rfl⟩
          rw [hW] at hb hal
          rw [hbn] at hal
          try rw [zero_ints]
          try rw [hW]
          try rw [hbn]
          obtain ⟨k0, k1, k2, k3⟩ := hHeld
          refine hK9.out _ _ (fun _ => ⟨cell_below hb k0, cell_below hb k1, cell_below hb k2, cell_below hb k3⟩) (fun hHeld => ?_)
          have hHeld := hHeld (by decide)
          clear hK9 K9 k0 k1 k2 k3
          clear hb hW hbn
          have x1 := (hal.l _ rfl).2
          have x2 := (hal.r _ rfl).2
          have y1 := (hal.l _ rfl).1
          have y2 := (hal.r _ rfl).1
          have y3 := hal.ne _ _ rfl rfl
          have y4 := hal.bel
          have x3 := x1.setRow (g := nextS m s0)
          have x4 : IBlk (W29.setRow b29 (Ints (nextS m s0))) b26 (fun _ => 0) := (setRow_other W29 _ (fun e => y3 e.symm)).trans x2
          have x5 := x4.setRow (g := nextS n s1)
          have x6 : IBlk ((W29.setRow b29 (Ints (nextS m s0))).setRow b26 (Ints (nextS n s1))) b29 (nextS m s0) := (setRow_other _ _ y3).trans x3
          have y5 := below_setRow (below_setRow y4 y1 (Ints (nextS m s0))) y2 (Ints (nextS n s1))
          refine goes_one (i := 18) (by kernel_rfl) rfl (fun K9 hK9 => ?_)
          rw [if_pos (by rfl)]
          refine wp_store_ints b29 _ (nextS m s0) x1 _ _ rfl rfl rfl ?_
          obtain ⟨k0, k1, k2, k3⟩ := hHeld
          have q5 : ∀ {a : Addr} {u : Value} {W9 : World} {cs : Array Value}, W9.cell? a = some u → a.block ≠ b29 → (W9.setRow b29 cs).cell? a = some u := fun h hne => (World.cell?_of_block (setRow_other _ _ hne)).trans h
          refine hK9.out _ _ (fun _ => ⟨q5 k0 (by show bw ≠ _; omega), q5 k1 (by show bw ≠ _; omega), q5 k2 (by show N ≠ _; omega), q5 k3 (by show N ≠ _; omega)⟩) (fun hHeld => ?_)
          have hHeld := hHeld (by decide)
          clear hK9 K9 k0 k1 k2 k3 q5
          refine goes_one (i := 19) (by kernel_rfl) rfl (fun K9 hK9 => ?_)
          rw [if_pos (by rfl)]
          refine wp_store_ints b26 _ (nextS n s1) x4 _ _ rfl rfl rfl ?_
          obtain ⟨k0, k1, k2, k3⟩ := hHeld
          have q5 : ∀ {a : Addr} {u : Value} {W9 : World} {cs : Array Value}, W9.cell? a = some u → a.block ≠ b26 → (W9.setRow b26 cs).cell? a = some u := fun h hne => (World.cell?_of_block (setRow_other _ _ hne)).trans h
          refine hK9.out _ _ (fun _ => ⟨q5 k0 (by show bw ≠ _; omega), q5 k1 (by show bw ≠ _; omega), q5 k2 (by show N ≠ _; omega), q5 k3 (by show N ≠ _; omega)⟩) (fun hHeld => ?_)
          have hHeld := hHeld (by decide)
          clear hK9 K9 k0 k1 k2 k3 q5
          refine goes_done (by kernel_rfl) ?_ _
          exact ⟨b29, b26, rfl, y1, y2, y3, x6, x5, y5⟩
        · skip
          go_simp
          have hb := new_one W27 (.cells (Ints fun _ => 0) 49)
          replace hal := hal.left
          obtain ⟨b30, hbn⟩ : ∃ z, W27.heap.size = z := ⟨_, rfl⟩
          obtain ⟨W30, hW⟩ : ∃ z, W27.alloc (.cells (Ints fun _ => 0) 49) = z := ⟨_, rfl⟩
          rw [hW] at hb hal
          rw [hbn] at hal
          try rw [zero_ints]
          try rw [hW]
          try rw [hbn]
          obtain ⟨k0, k1, k2, k3⟩ := hHeld
          refine hK9.out _ _ (fun _ => ⟨cell_below hb k0, cell_below hb k1, cell_below hb k2, cell_below hb k3⟩) (fun hHeld => ?_)
          have hHeld := hHeld (by decide)
          clear hK9 K9 k0 k1 k2 k3
          clear hb hW hbn
          refine goes_one (i := 15) (by kernel_rfl) rfl (fun K9 hK9 => ?_)
          go_simp
          with_reducible refine (HTB.out _ hal.bel).mono ?_
          rintro e W31 ⟨rfl, hb⟩
          replace hal := hal.call hb
          obtain ⟨k0, k1, k2, k3⟩ := hHeld
          refine hK9.out _ _ (fun _ => ⟨cell_below hb k0, cell_below hb k1, cell_below hb k2, cell_below hb k3⟩) (fun hHeld => ?_)
          have hHeld := hHeld (by decide)
          clear hK9 K9 k0 k1 k2 k3
          clear hb
          have x1 := (hal.l _ rfl).2
          have x2 := (hal.r _ rfl).2
          have y1 := (hal.l _ rfl).1
          have y2 := (hal.r _ rfl).1
          have y3 := hal.ne _ _ rfl rfl
          have y4 := hal.bel
          have x3 := x1.setRow (g := nextS m s0)
          have x4 : IBlk (W31.setRow b30 (Ints (nextS m s0))) b26 (fun _ => 0) := (setRow_other W31 _ (fun e => y3 e.symm)).trans x2
          have x5 := x4.setRow (g := nextS n s1)
          have x6 : IBlk ((W31.setRow b30 (Ints (nextS m s0))).setRow b26 (Ints (nextS n s1))) b30 (nextS m s0) := (setRow_other _ _ y3).trans x3
          have y5 := below_setRow (below_setRow y4 y1 (Ints (nextS m s0))) y2 (Ints (nextS n s1))
          refine goes_one (i := 18) (by kernel_rfl) rfl (fun K9 hK9 => ?_)
          rw [if_pos (by rfl)]
          refine wp_store_ints b30 _ (nextS m s0) x1 _ _ rfl rfl rfl ?_
          obtain ⟨k0, k1, k2, k3⟩ := hHeld
          have q5 : ∀ {a : Addr} {u : Value} {W9 : World} {cs : Array Value}, W9.cell? a = some u → a.block ≠ b30 → (W9.setRow b30 cs).cell? a = some u := fun h hne => (World.cell?_of_block (setRow_other _ _ hne)).trans h
          refine hK9.out _ _ (fun _ => ⟨q5 k0 (by show bw ≠ _; omega), q5 k1 (by show bw ≠ _; omega), q5 k2 (by show N ≠ _; omega), q5 k3 (by show N ≠ _; omega)⟩) (fun hHeld => ?_)
          have hHeld := hHeld (by decide)
          clear hK9 K9 k0 k1 k2 k3 q5
          refine goes_one (i := 19) (by kernel_rfl) rfl (fun K9 hK9 => ?_)
          rw [if_pos (by rfl)]
          refine wp_store_ints b26 _ (nextS n s1) x4 _ _ rfl rfl rfl ?_
          obtain ⟨k0, k1, k2, k3⟩ := hHeld
          have q5 : ∀ {a : Addr} {u : Value} {W9 : World} {cs : Array Value}, W9.cell? a = some u → a.block ≠ b26 → (W9.setRow b26 cs).cell? a = some u := fun h hne => (World.cell?_of_block (setRow_other _ _ hne)).trans h
          refine hK9.out _ _ (fun _ => ⟨q5 k0 (by show bw ≠ _; omega), q5 k1 (by show bw ≠ _; omega), q5 k2 (by show N ≠ _; omega), q5 k3 (by show N ≠ _; omega)⟩) (fun hHeld => ?_)
          have hHeld := hHeld (by decide)
          clear hK9 K9 k0 k1 k2 k3 q5
          refine goes_done (by kernel_rfl) ?_ _
          exact ⟨b30, b26, rfl, y1, y2, y3, x6, x5, y5⟩
      · skip
        go_simp
        have hb := new_one W26 (.cells (Ints fun _ => 0) 49)
        replace hal := hal.left
        obtain ⟨b32, hbn⟩ : ∃ z, W26.heap.size = z := ⟨_, rfl⟩
        obtain ⟨W32, hW⟩ : ∃ z, W26.alloc (.cells (Ints fun _ => 0) 49) = z := ⟨_, rfl⟩
        rw [hW] at hb hal
        rw [hbn] at hal
        try rw [zero_ints]
        try rw [hW]
        try rw [hbn]
        obtain ⟨k0, k1, k2, k3⟩ := hHeld
        refine hK9.out _ _ (fun _ => ⟨cell_below hb k0, cell_below hb k1, cell_below hb k2, cell_below hb k3⟩) (fun hHeld => ?_)
        have hHeld := hHeld (by decide)
        clear hK9 K9 k0 k1 k2 k3
        clear hb hW hbn
        refine goes_one (i := 7) (by kernel_rfl) rfl (fun K9 hK9 => ?_)
        go_simp
        with_reducible refine (HTA.out _ hal.bel).mono ?_
        rintro e W33 ⟨rfl, hb⟩
        replace hal := hal.call hb
        obtain ⟨k0, k1, k2, k3⟩ := hHeld
        refine hK9.out _ _ (fun _ => ⟨cell_below hb k0, cell_below hb k1, cell_below hb k2, cell_below hb k3⟩) (fun hHeld => ?_)
        have hHeld := hHeld (by decide)
        clear hK9 K9 k0 k1 k2 k3
        clear hb
        refine goes_one (i := 15) (by kernel_rfl) rfl (fun K9 hK9 => ?_)
        go_simp
        with_reducible refine (HTB.out _ hal.bel).mono ?_
        rintro e W34 ⟨rfl, hb⟩
        replace hal := hal.call hb
        obtain ⟨k0, k1, k2, k3⟩ := hHeld
        refine hK9.out _ _ (fun _ => ⟨cell_below hb k0, cell_below hb k1, cell_below hb k2, cell_below hb k3⟩) (fun hHeld => ?_)
        have hHeld := hHeld (by decide)
        clear hK9 K9 k0 k1 k2 k3
        clear hb
        have x1 := (hal.l _ rfl).2
        have x2 := (hal.r _ rfl).2
        have y1 := (hal.l _ rfl).1
        have y2 := (hal.r _ rfl).1
        have y3 := hal.ne _ _ rfl rfl
        have y4 := hal.bel
        have x3 := x1.setRow (g := nextS m s0)
        have x4 : IBlk (W34.setRow b32 (Ints (nextS m s0))) b26 (fun _ => 0) := (setRow_other W34 _ (fun e => y3 e.symm)).trans x2
        have x5 := x4.setRow (g := nextS n s1)
        have x6 : IBlk ((W34.setRow b32 (Ints (nextS m s0))).setRow b26 (Ints (nextS n s1))) b32 (nextS m s0) := (setRow_other _ _ y3).trans x3
        have y5 := below_setRow (below_setRow y4 y1 (Ints (nextS m s0))) y2 (Ints (nextS n s1))
        refine goes_one (i := 18) (by kernel_rfl) rfl (fun K9 hK9 => ?_)
        rw [if_pos (by rfl)]
        refine wp_store_ints b32 _ (nextS m s0) x1 _ _ rfl rfl rfl ?_
        obtain ⟨k0, k1, k2, k3⟩ := hHeld
        have q5 : ∀ {a : Addr} {u : Value} {W9 : World} {cs : Array Value}, W9.cell? a = some u → a.block ≠ b32 → (W9.setRow b32 cs).cell? a = some u := fun h hne => (World.cell?_of_block (setRow_other _ _ hne)).trans h
        refine hK9.out _ _ (fun _ => ⟨q5 k0 (by show bw ≠ _; omega), q5 k1 (by show bw ≠ _; omega), q5 k2 (by show N ≠ _; omega), q5 k3 (by show N ≠ _; omega)⟩) (fun hHeld => ?_)
        have hHeld := hHeld (by decide)
        clear hK9 K9 k0 k1 k2 k3 q5
        refine goes_one (i := 19) (by kernel_rfl) rfl (fun K9 hK9 => ?_)
        rw [if_pos (by rfl)]
        refine wp_store_ints b26 _ (nextS n s1) x4 _ _ rfl rfl rfl ?_
        obtain ⟨k0, k1, k2, k3⟩ := hHeld
        have q5 : ∀ {a : Addr} {u : Value} {W9 : World} {cs : Array Value}, W9.cell? a = some u → a.block ≠ b26 → (W9.setRow b26 cs).cell? a = some u := fun h hne => (World.cell?_of_block (setRow_other _ _ hne)).trans h
        refine hK9.out _ _ (fun _ => ⟨q5 k0 (by show bw ≠ _; omega), q5 k1 (by show bw ≠ _; omega), q5 k2 (by show N ≠ _; omega), q5 k3 (by show N ≠ _; omega)⟩) (fun hHeld => ?_)
        have hHeld := hHeld (by decide)
        clear hK9 K9 k0 k1 k2 k3 q5
        refine goes_done (by kernel_rfl) ?_ _
        exact ⟨b32, b26, rfl, y1, y2, y3, x6, x5, y5⟩
  rintro a W ⟨bl, br, rfl, hbl, hbr, hne, hil, hir, hbW⟩
  have hsW := hbW.size
  have hBW : Below w.heap.size w W := HBW1.out.trans (hbW.mono (by omega))
  have HSW := Lib.hid (hS.out.below hBW)
  have hvo : ∀ q, vo.ownBlock = some q → q < N := fun q e => by have := (hS.out.ws.ord.lt q e).2; omega
  have HX := Lib.hid ((hbW.block N (by omega)).trans HX1.out)
  have HIL := Lib.hid hil
  have HIR := Lib.hid hir
  have hll := hil.lt
  have hrl := hir.lt
  have HBW := Lib.hid hBW
  have HNO := Lib.hid (show ∀ x, N ≤ x → ¬ Own bw g bm vo x from fun x hx ho => by
    rcases ho with rfl | rfl | rfl | e
    · omega
    · omega
    · omega
    · have := hvo _ e; omega)
  clear hbW hil hir hvo HX1 HTA HTB hBW HBW1 hS
  go_wp2
  go_loopw [23] (fun z wr => ∃ (k : Nat) (vo' : Value) (Q' : List (List Nat)) (L' : List ((Int × Int) × Value)) (A' R' r' : Nat → Nat), z = .int .i64 k ∧ k ≤ 256 ∧ Hid (vo'.ownBlock = vo.ownBlock ∨ ∃ q, vo'.ownBlock = some q ∧ W.heap.size ≤ q) ∧ Hid (∀ (j : Nat) (x : List Nat), Q[j]? = some x → Q'[j]? = some x) ∧ Hid (St m n wr bw bs g cap bm B (.slice a0 m.length c0) (.slice a1 n.length c1) vo' Q' L' A' R' r' i k) ∧ Hid (Oth W wr (Own bw g bm vo))) (fun z _ => 256 - (intOf z).toNat)
  case atStart => exact ⟨0, vo, Q, L, A, R, r, rfl, Nat.zero_le _, Lib.hid (.inl rfl), Lib.hid (fun _ _ h => h), HSW, Lib.hid (Oth.refl _ _)⟩
  case round =>
    clear HSW
    obtain ⟨k, vo', Q', L', A', R', r', rfl, hk, HVO, HQ, HST, HO⟩ := hrel
    by_cases hlt : k < 256
    · have hd : decide ((k : Int) < 256) = true := decide_eq_true (by omega)
      have hkl : (k : Int) < 256 := by omega
      have hwk : IntKind.u8.wrap (k : Int) = k := by rw [IntKind.wrap_u8]; omega
      have d0 : wr.drew.cell? ⟨bl, k, none⟩ = some (.int .i64 (nextS m s0 k)) := IBlk.cell (w := wr.drew) ((HO.out.block bl hll (HNO.out _ (by omega))).trans HIL.out) hlt
      have d1 : wr.drew.cell? ⟨br, k, none⟩ = some (.int .i64 (nextS n s1 k)) := IBlk.cell (w := wr.drew) ((HO.out.block br hrl (HNO.out _ (by omega))).trans HIR.out) hlt
      have hxN := (HO.out.block N (by omega) (HNO.out _ (by omega))).trans HX.out
      have d2 : wr.drew.cell? ⟨N, 0, none⟩ = some (.int .i64 s0) := (cell_of_row wr N 0 _ _ _ hxN).trans rfl
      have d3 : wr.drew.cell? ⟨N, 1, none⟩ = some (.int .i64 s1) := (cell_of_row wr N 1 _ _ _ hxN).trans rfl
      have hstd := HST.out.below ((Below.refl wr.heap.size wr).drew)
      have hne1 : prM m n (v ++ [k]) = (mk m.length 0 (nextS m s0 k), mk m.length 1 (nextS n s1 k)) := by unfold prM mkP; rw [HP.out]
      have hat0 := next_at hf0.out s0 k
      have hat1 := next_at hf1.out s1 k
      have hr0 := at_range hat0 (show m.length ≤ 9000 by omega)
      have hr1 := at_range hat1 (show n.length ≤ 9000 by omega)
      have HVIS := Lib.hid (visit_any r' bw bs g cap (m.length + n.length + 1) bm B m.length c0 (mk m.length 0 (nextS m s0 k)) (mk m.length 1 (nextS n s1 k)) a0 (.slice a1 n.length c1) vo' (Q'.map (prT m n)) L' A' R' (nextS m s0 k) (nextS n s1 k) s0 s1 k wr.drew hstd.ws hstd.uf (by omega) ⟨hr0.1, by omega, hr1.1, by omega⟩ (markN_mk hat0) (markN_mk hat1) (mk_lt hat0 _) (mk_lt1 hat1 _) (fun hne => by
        have := hstd.new (u := v ++ [k]) (by rw [hne1]; exact hne)
        rw [HP.out] at this; exact this) (by rw [List.length_map]; have := hstd.len; omega))
      have HSTEP := Lib.hid (show ∀ w5, Visited wr.drew w5 bw bs g cap (m.length + n.length + 1) bm B (.slice a0 m.length c0) (.slice a1 n.length c1) vo' (Q'.map (prT m n)) L' R' (mk m.length 0 (nextS m s0 k)) (mk m.length 1 (nextS n s1 k)) (nextS m s0 k, nextS n s1 k) (s0, s1) k → _ from fun w5 h5 => hstd.step hf0.out hf1.out (w' := w5) hlt (HQ.out _ _ hQ.out) (by rw [hne1, HP.out, HPV.out]; exact h5))
      have HNV := Lib.hid (show ∀ x, N ≤ x → x < W.heap.size → ¬ Own bw g bm vo' x from fun x hx hx2 ho => by
        rcases ho with rfl | rfl | rfl | e
        · omega
        · omega
        · omega
        · rcases HVO.out with h | ⟨q, h, hq⟩
          · exact HNO.out x hx (.inr (.inr (.inr (h ▸ e))))
          · rw [h] at e; cases e; omega)
      have hszr := HO.out.size
      obtain ⟨p0, hp0⟩ : ∃ p0, nextS m s0 k = p0 := ⟨_, rfl⟩
      obtain ⟨p1, hp1⟩ : ∃ p1, nextS n s1 k = p1 := ⟨_, rfl⟩
      rw [hp0] at d0 HVIS HSTEP
      rw [hp1] at d1 HVIS HSTEP
      clear hp0 hp1 hat0 hat1 hr0 hr1 hne1 hstd hxN
      go_upto_region 5 with fail
      refine region_goes 113 13 rfl (fun W => W.cell? ⟨bl, k, none⟩ = some (.int .i64 p0) ∧ W.cell? ⟨br, k, none⟩ = some (.int .i64 p1) ∧ W.cell? ⟨N, 0, none⟩ = some (.int .i64 s0) ∧ W.cell? ⟨N, 1, none⟩ = some (.int .i64 s1)) mixed ⟨d0, d1, d2, d3⟩ (fun hHeld => ?_)
      clear d0 d1 d2 d3
      refine goes_take0 (i := 0) (v := ?hv15) rfl (by kernel_rfl) (by kernel_rfl) (by kernel_rfl) rfl (fun _ _ _ h => h) (Or.inl ⟨by rfl, ?hy15⟩) (by assumption) ?hr15
      case hy15 => (intro W9 hW9; obtain ⟨k0, k1, k2, k3⟩ := hW9; first | (go_simp; done) | (go_simp; with_reducible rfl))
      simp only [Act.put, getElem_toArray, getElem_cons_succ, getElem_cons_zero, setIfInBounds_toArray, set_cons_zero, set_cons_succ]
      refine goes_take0 (i := 1) (v := ?hv16) rfl (by kernel_rfl) (by kernel_rfl) (by kernel_rfl) rfl (fun _ _ _ h => h) (Or.inl ⟨by rfl, ?hy16⟩) (by assumption) ?hr16
      case hy16 => (intro W9 hW9; obtain ⟨k0, k1, k2, k3⟩ := hW9; first | (go_simp; done) | (go_simp; with_reducible rfl))
      simp only [Act.put, getElem_toArray, getElem_cons_succ, getElem_cons_zero, setIfInBounds_toArray, set_cons_zero, set_cons_succ]
      refine goes_take0 (i := 2) (v := ?hv17) rfl (by kernel_rfl) (by kernel_rfl) (by kernel_rfl) rfl (fun _ _ _ h => h) (Or.inl ⟨by rfl, ?hy17⟩) (by assumption) ?hr17
      case hy17 => (intro W9 hW9; obtain ⟨k0, k1, k2, k3⟩ := hW9; first | (go_simp; done) | (go_simp; with_reducible rfl))
      simp only [Act.put, getElem_toArray, getElem_cons_succ, getElem_cons_zero, setIfInBounds_toArray, set_cons_zero, set_cons_succ]
      refine goes_take0 (i := 3) (v := ?hv18) rfl (by kernel_rfl) (by kernel_rfl) (by kernel_rfl) rfl (fun _ _ _ h => h) (Or.inl ⟨by rfl, ?hy18⟩) (by assumption) ?hr18
      case hy18 => (intro W9 hW9; obtain ⟨k0, k1, k2, k3⟩ := hW9; first | (go_simp; done) | (go_simp; with_reducible rfl))
      simp only [Act.put, getElem_toArray, getElem_cons_succ, getElem_cons_zero, setIfInBounds_toArray, set_cons_zero, set_cons_succ]
      refine goes_take0 (i := 4) (v := ?hv19) rfl (by kernel_rfl) (by kernel_rfl) (by kernel_rfl) rfl (fun _ _ _ h => h) (Or.inl ⟨by rfl, ?hy19⟩) (by assumption) ?hr19
      case hy19 => (intro W9 hW9; obtain ⟨k0, k1, k2, k3⟩ := hW9; first | (go_simp; done) | (go_simp; with_reducible rfl))
      simp only [Act.put, getElem_toArray, getElem_cons_succ, getElem_cons_zero, setIfInBounds_toArray, set_cons_zero, set_cons_succ]
      refine goes_take0 (i := 5) (v := ?hv20) rfl (by kernel_rfl) (by kernel_rfl) (by kernel_rfl) rfl (fun _ _ _ h => h) (Or.inl ⟨by rfl, ?hy20⟩) (by assumption) ?hr20
      case hy20 => (intro W9 hW9; obtain ⟨k0, k1, k2, k3⟩ := hW9; first | (go_simp; done) | (go_simp; with_reducible rfl))
      simp only [Act.put, getElem_toArray, getElem_cons_succ, getElem_cons_zero, setIfInBounds_toArray, set_cons_zero, set_cons_succ]
      refine goes_take0 (i := 6) (v := ?hv21) rfl (by kernel_rfl) (by kernel_rfl) (by kernel_rfl) rfl (fun _ _ _ h => h) (Or.inl ⟨by rfl, ?hy21⟩) (by assumption) ?hr21
      case hy21 => (intro W9 hW9; obtain ⟨k0, k1, k2, k3⟩ := hW9; first | (go_simp; done) | (go_simp; with_reducible rfl))
      simp only [Act.put, getElem_toArray, getElem_cons_succ, getElem_cons_zero, setIfInBounds_toArray, set_cons_zero, set_cons_succ]
      refine goes_take0 (i := 7) (v := ?hv22) rfl (by kernel_rfl) (by kernel_rfl) (by kernel_rfl) rfl (fun _ _ _ h => h) (Or.inl ⟨by rfl, ?hy22⟩) (by assumption) ?hr22
      case hy22 => (intro W9 hW9; obtain ⟨k0, k1, k2, k3⟩ := hW9; first | (go_simp; done) | (go_simp; with_reducible rfl))
      simp only [Act.put, getElem_toArray, getElem_cons_succ, getElem_cons_zero, setIfInBounds_toArray, set_cons_zero, set_cons_succ]
      refine goes_take0 (i := 8) (v := ?hv23) rfl (by kernel_rfl) (by kernel_rfl) (by kernel_rfl) rfl (fun _ _ _ h => h) (Or.inl ⟨by rfl, ?hy23⟩) (by assumption) ?hr23
      case hy23 => (intro W9 hW9; obtain ⟨k0, k1, k2, k3⟩ := hW9; first | (go_simp; done) | (go_simp; with_reducible rfl))
      simp only [Act.put, getElem_toArray, getElem_cons_succ, getElem_cons_zero, setIfInBounds_toArray, set_cons_zero, set_cons_succ]
      refine goes_take0 (i := 9) (v := ?hv24) rfl (by kernel_rfl) (by kernel_rfl) (by kernel_rfl) rfl (fun _ _ _ h => h) (Or.inl ⟨by rfl, ?hy24⟩) (by assumption) ?hr24
      case hy24 => (intro W9 hW9; obtain ⟨k0, k1, k2, k3⟩ := hW9; first | (go_simp; done) | (go_simp; with_reducible rfl))
      simp only [Act.put, getElem_toArray, getElem_cons_succ, getElem_cons_zero, setIfInBounds_toArray, set_cons_zero, set_cons_succ]
      refine goes_take0 (i := 10) (v := ?hv25) rfl (by kernel_rfl) (by kernel_rfl) (by kernel_rfl) rfl (fun _ _ _ h => h) (Or.inl ⟨by rfl, ?hy25⟩) (by assumption) ?hr25
      case hy25 => (intro W9 hW9; obtain ⟨k0, k1, k2, k3⟩ := hW9; first | (go_simp; done) | (go_simp; with_reducible rfl))
      simp only [Act.put, getElem_toArray, getElem_cons_succ, getElem_cons_zero, setIfInBounds_toArray, set_cons_zero, set_cons_succ]
      refine goes_take0 (i := 11) (v := ?hv26) rfl (by kernel_rfl) (by kernel_rfl) (by kernel_rfl) rfl (fun _ _ _ h => h) (Or.inl ⟨by rfl, ?hy26⟩) (by assumption) ?hr26
      case hy26 => (intro W9 hW9; obtain ⟨k0, k1, k2, k3⟩ := hW9; first | (go_simp; done) | (go_simp; with_reducible rfl))
      simp only [Act.put, getElem_toArray, getElem_cons_succ, getElem_cons_zero, setIfInBounds_toArray, set_cons_zero, set_cons_succ]
      refine goes_one (i := 12) (by kernel_rfl) rfl (fun K9 hK9 => ?_)
      go_simp
      with_reducible refine HVIS.out.mono ?_
      rintro e w5 ⟨rfl, hvis⟩
      obtain ⟨hO5, vo2, Q2, L2, A2, R2, r2, hvo2, hQ2, hst2⟩ := HSTEP.out w5 hvis.out
      obtain ⟨k0, k1, k2, k3⟩ := hHeld
      refine hK9.out _ _ (fun _ => ⟨hO5.cell k0 (HNV.out _ (by show N ≤ bl; omega) hll), hO5.cell k1 (HNV.out _ (by show N ≤ br; omega) hrl), hO5.cell k2 (HNV.out _ (Nat.le_refl _) (by show N < _; omega)), hO5.cell k3 (HNV.out _ (Nat.le_refl _) (by show N < _; omega))⟩) (fun hHeld => ?_)
      clear hK9 K9 k0 k1 k2 k3
      have HQ2 : Hid (∀ (j : Nat) (x : List Nat), Q[j]? = some x → Q2[j]? = some x) := Lib.hid (fun j x h => hQ2 j x (HQ.out j x h))
      have HST2 := Lib.hid hst2
      have HO2 : Hid (Oth W w5 (Own bw g bm vo)) := Lib.hid ((HO.out.trans (Oth.of_below (S := Own bw g bm vo) (Below.refl wr.heap.size wr).drew) (fun _ _ h => h)).trans hO5 (fun x hx hn ho => by
        rcases ho with h | h | h | e
        · exact hn (.inl h)
        · exact hn (.inr (.inl h))
        · exact hn (.inr (.inr (.inl h)))
        · rcases HVO.out with h | ⟨q, h, hq⟩
          · exact hn (.inr (.inr (.inr (h ▸ e))))
          · rw [h] at e; cases e; omega))
      have HVO2 : Hid (vo2.ownBlock = vo.ownBlock ∨ ∃ q, vo2.ownBlock = some q ∧ W.heap.size ≤ q) := Lib.hid (by
        rcases hvo2 with h | ⟨q, h, hq⟩
        · rw [h]; exact HVO.out
        · exact .inr ⟨q, h, Nat.le_trans hszr hq⟩)
      clear hvis hO5 hvo2 hQ2 hst2 HVIS HSTEP HNV HST HO HVO HQ
      refine goes_done (by kernel_rfl) ?_ _
      go_wp2
      go_roundw
      case rel => exact ⟨k + 1, vo2, Q2, L2, A2, R2, r2, num_succ k, by omega, HVO2, HQ2, HST2, HO2⟩
      case measure => simp [intOf]; omega
    · obtain rfl : k = 256 := by omega
      have hd : decide (((256 : Nat) : Int) < 256) = false := by decide
      go_wp2
      go_end0
      exact ⟨rfl, Lib.hid ((Oth.of_below HBW.out).trans HO.out (fun _ _ h => h)), Lib.hid ⟨vo', Q', L', A', R', r', HVO.out.imp_right (fun ⟨q, h, hq⟩ => ⟨q, h, Nat.le_trans HBW.out.size hq⟩), HQ.out, HST.out⟩⟩
end Go.Proofs.Ytamgldhnfcikbaa
