/- Texts that a proof rests on: The contract of minim.merged. | minim.Least. | The reference's Least: what it keeps to. -/
import Derived.Test.YtamgldhnfcikbaaK21
set_option maxRecDepth 100000
namespace Go.Proofs.Ytamgldhnfcikbaa
open List (getElem_toArray getElem_cons_succ getElem_cons_zero setIfInBounds_toArray set_cons_zero set_cons_succ)
open Go.RowKit

theorem next_cases {m : List Sta} (hf : Fits m) {s : Nat} (hs : s < m.length) (b : Nat) : (nextP m s b = none ∧ nextS m (s : Nat) b = -1) ∨ ∃ y : Nat, nextP m s b = some y ∧ nextS m (s : Nat) b = y ∧ y < m.length := by
  unfold nextP
  rw [nextS_at hs]
  rcases firstTo_in m[s].arcs b with e | ⟨a, ha, _, e⟩
  · rw [e]; exact .inl ⟨if_neg (by omega), rfl⟩
  · obtain ⟨_, h2, h3, _⟩ := hf.ok hs ha
    rw [e, if_pos h2]
    exact .inr ⟨a.dest.toNat, rfl, by omega, by omega⟩
theorem nextP_lt {m : List Sta} (hf : Fits m) {s b y : Nat} (hs : s < m.length) (h : nextP m s b = some y) : y < m.length := by
  rcases next_cases hf hs b with ⟨e, _⟩ | ⟨z, e, _, hz⟩
  · rw [e] at h; cases h
  · rw [e] at h; cases h; exact hz
theorem MK.but {w w' : World} {bn bc bf gn n B q o cc T : Nat} {C : Nat → Nat} {v : Value} {L : List Nat} {cs : Array Value} {t : TypeId} {fz : Nat × Nat} (h : MK w bn bc bf gn n B q o cc C v L) (hT : w.heap[T]? = some (.cells cs t fz)) (ht : t ≠ 3) (hTB : B ≤ T) (hs : w.heap.size ≤ w'.heap.size) (hk : ∀ k, k < w.heap.size → k ≠ T → w'.heap[k]? = w.heap[k]?) : MK w' bn bc bf gn n B q o cc C v L := by
  obtain ⟨f1, f2, f3, f4, f5, f6⟩ := h.far
  refine ⟨(hk _ (by omega) (by omega)).trans h.b1, (hk _ (by omega) (by omega)).trans h.b2, (hk _ (by omega) (by omega)).trans h.b3, (hk _ (by omega) (by omega)).trans h.nb, fun i hi => (World.cell?_of_block (hk q (by omega) (by omega))).trans (h.cl i hi), row_same h.rf fun k e => hk k (h.rf.lt k e).2 (fun e2 => ?_), ⟨f1, f2, f3, f4, f5, by omega⟩, h.ne⟩
  subst e2
  obtain ⟨c2, h2⟩ := row_block h.rf e
  rw [hT] at h2
  exact ht (Obj.cells.inj (Option.some.inj h2)).2.1
theorem MK.row {w w7 w' : World} {bn bc bf gn n B q o cc sz nn : Nat} {C : Nat → Nat} {v u : Value} {L : List Nat} {xs : List Value} {e : TypeId} (h : MK w bn bc bf gn n B q o cc C v L) (hu : w.ownsRow B e sz u nn xs) (he : e ≠ 3) (h7 : Below w.heap.size w w7) (hg : w7.grownBy w' u.ownBlock) : MK w' bn bc bf gn n B q o cc C v L := by
  have h2 := h.keep h7.size h7.block
  obtain ⟨f1, f2, f3, f4, f5, f6⟩ := h2.far
  have hub : ∀ k, k < B → some k ≠ u.ownBlock := fun k hk e => by have := (hu.lt k e.symm).1; omega
  have hk : ∀ k, k < w7.heap.size → some k ≠ u.ownBlock → w'.heap[k]? = w7.heap[k]? := fun k h1 h3 => hg.block k h1 h3
  refine ⟨(hk _ (by omega) (hub _ f1)).trans h2.b1, (hk _ (by omega) (hub _ f2)).trans h2.b2, (hk _ (by omega) (hub _ f3)).trans h2.b3, (hk _ (by omega) (hub _ f4)).trans h2.nb, fun i hi => (World.cell?_of_block (hk q (by omega) (hub _ f5))).trans (h2.cl i hi), row_same h2.rf fun k e2 => hk k (h2.rf.lt k e2).2 (fun e3 => ?_), ⟨f1, f2, f3, f4, f5, by have := hg.size; omega⟩, h2.ne⟩
  obtain ⟨c1, x1⟩ := row_block hu e3.symm
  obtain ⟨c2, x2⟩ := row_block h.rf e2
  rw [x1] at x2
  exact he (Obj.cells.inj (Option.some.inj x2)).2.1
theorem RowsM.typed {w w' : World} {N : Nat} {v : Value} {vs : List (Nat × Value)} {M : List Sta} (h : RowsM w N v vs M) (hk : ∀ (g : Nat) (cs : Array Value) (t : TypeId), w.heap[g]? = some (Obj.cells cs t (0, 0)) → t = 42 ∨ t = 38 → w'.heap[g]? = some (Obj.cells cs t (0, 0))) : RowsM w' N v vs M :=
  ⟨h.len, row_keep h.own fun g cs _ hg => hk g cs _ hg (.inl rfl), h.acc, fun i h1 h2 => row_keep (h.row i h1 h2) fun g cs _ hg => hk g cs _ hg (.inr rfl)⟩
theorem exec_load_ints {op : Oper} {a : Act} {w : World} {b : Nat} {f : Nat → Int} (hb : IBlk w b f) (x : Operand) (ho : op.op = .load 49 x) (hx : a.eval x = .pointer (some ⟨b, 0, none⟩)) : (execOp a.eval op).run Try.prog w = .ok (.value (.agg (Ints f))) w := by
  unfold execOp
  simp only [ho, hx, Instr.loadAt, Instr.sureAddr, Sem.run_bind, Sem.run_pure, Result.andThen_ok, load_ints hb]
theorem MK.ablk {w w' : World} {bn bc bf gn n B q o cc T : Nat} {C : Nat → Nat} {v : Value} {L : List Nat} {f : Nat → Int} (h : MK w bn bc bf gn n B q o cc C v L) (hI : IBlk w T f) (hTB : B ≤ T) (hk : ∀ k, k < w.heap.size → some k ≠ v.ownBlock → k ≠ gn → k ≠ bf → w'.heap[k]? = w.heap[k]?) : IBlk w' T f := by
  obtain ⟨f1, f2, f3, f4, f5, f6⟩ := h.far
  refine (hk T hI.lt (fun e => ?_) (by omega) (by omega)).trans hI
  obtain ⟨c2, h2⟩ := row_block h.rf e.symm
  rw [show w.heap[T]? = _ from hI] at h2
  exact absurd (Obj.cells.inj (Option.some.inj h2)).2.1 (by decide)
theorem MK.rows {w w' : World} {bn bc bf gn n B q o cc N : Nat} {C : Nat → Nat} {v x : Value} {L : List Nat} {vs : List (Nat × Value)} {M : List Sta} (h : MK w bn bc bf gn n B q o cc C v L) (hr : RowsM w N x vs M) (hk : ∀ k, k < w.heap.size → some k ≠ v.ownBlock → k ≠ gn → k ≠ bf → w'.heap[k]? = w.heap[k]?) : RowsM w' N x vs M := by
  refine hr.typed fun g cs t hg ht => (hk g (lt_of_block hg) (fun e => ?_) (fun e => ?_) (fun e => ?_)).trans hg
  · obtain ⟨c2, h2⟩ := row_block h.rf e.symm
    rw [hg] at h2
    have := (Obj.cells.inj (Option.some.inj h2)).2.1
    subst this
    revert ht; decide
  · subst e
    have h2 := h.nb
    rw [hg] at h2
    have := (Obj.cells.inj (Option.some.inj h2)).2.1
    subst this
    revert ht; decide
  · subst e
    have h2 := h.b3
    rw [hg] at h2
    have := (Obj.cells.inj (Option.some.inj h2)).2.1
    subst this
    revert ht; decide
def lenV : Value → Nat
  | .slice _ k _ => k
  | _ => 0
set_option linter.unusedSimpArgs false in
set_option maxHeartbeats 8000000 in
theorem merged_any (v : Value) (m : List Sta) (q o cc : Nat) (C : Nat → Nat) (w : World) (hv : MachAt w v m) (hl : ∀ s ∈ m, s.arcs.length < 9223372036854775808) (hm : Mays m) (hf : Fits m) (h0 : 0 < m.length) (hn : m.length ≤ 4096)
    (hc : ∀ i, i < m.length → w.cell? ⟨q, o + i, none⟩ = some (.int .i64 (C i : Nat)) ∧ C i < m.length) :
    Calls Try.prog 22 #[v, .slice (some ⟨q, o, none⟩) m.length cc] w fun e w' => ∃ u i, e = .returned u ∧ (walkK (nextP m) C 0 i).length = i ∧ Hid (MachAt w' u (leastK (accAt m) (nextP m) C (walkK (nextP m) C 0 i))) ∧ Hid (Below w.heap.size w w') := by
  have mixed : Try.prog.follows .mixedOrders = true := by kernel_rfl
  obtain ⟨va, vc, rfl⟩ := hv.len
  obtain ⟨N, hN⟩ : ∃ N, w.heap.size = N := ⟨_, rfl⟩
  have HN := Lib.hid hN
  have HC := Lib.hid hc
  have HV := Lib.hid hv
  have hq : q < N := by have h9 : q < w.heap.size := cell_lt (hc 0 h0).1; omega
  have HQ := Lib.hid hq
  obtain ⟨n, hnn⟩ : ∃ n, m.length = n := ⟨_, rfl⟩
  have HNN := Lib.hid hnn
  rw [hnn]
  rw [hnn] at h0 hn
  have e0 : ((n : Int) == 0) = false := by rw [beq_eq_false_iff_ne]; have h9 : 0 < n := h0; omega
  have HREP : Hid (∀ q o c W, W.cell? ⟨q, o, none⟩ = some (.int .i64 (-1)) → Calls Try.prog 42 #[.slice (some ⟨q, o, none⟩) 1 c, .int .i64 n] W fun e w' => e = .returned (.slice (some ⟨W.heap.size, 0, none⟩) n n) ∧ Hid (w'.heap[W.heap.size]? = some (.cells (fillV n n (-1)).toArray 3 (0, 0))) ∧ Hid (Below W.heap.size W w')) := Lib.hid (fun q o c W h => repeat_any n q o c (-1) W h hn h0)
  clear hv hc hnn
  rw [hN]
  go_enter Try.func22, Try.ntmps22
  have c7 : ((((w.alloc (.cells #[.slice (some ⟨q, o, none⟩) n cc] 44)).alloc (.cells #[.slice none 0 0] 44)).alloc (.cells #[.int .i64 (-1)] 3))).cell? ⟨N + 1 + 1, 0, none⟩ = some (.int .i64 (-1)) := by
    have h := heap_alloc_new ((w.alloc (.cells #[.slice (some ⟨q, o, none⟩) n cc] 44)).alloc (.cells #[.slice none 0 0] 44)) (.cells #[.int .i64 (-1)] 3)
    rw [World.size_alloc, World.size_alloc, hN] at h
    exact (cell_of_row _ _ 0 _ _ _ h).trans rfl
  have HRP := Lib.hid (HREP.out (N + 1 + 1) 0 1 _ c7)
  rw [World.size_alloc, World.size_alloc, World.size_alloc, hN] at HRP
  go_upto_region 5 with (go_at_call 42; (with_reducible refine HRP.out.mono ?_); rintro e w5 ⟨rfl, hr5, hb5⟩)
  obtain ⟨bn, hbn⟩ : ∃ bn, w5.heap.size = bn := ⟨_, rfl⟩
  have hN3 : N + 3 ≤ bn := by have := hb5.out.size; simp at this; omega
  have hN4 : N + 3 < bn := by have := lt_of_block hr5.out; omega
  obtain ⟨w6, hw6⟩ : ∃ w6, w5.alloc (.cells #[.slice (some ⟨N + 1 + 1 + 1, 0, none⟩) n n] 44) = w6 := ⟨_, rfl⟩
  have hs6 : w6.heap.size = bn + 1 := by rw [← hw6]; simp [hbn]
  have hb6 : Below bn w5 w6 := by rw [← hw6, ← hbn]; exact new_one w5 _
  have hx6 : w6.heap[bn]? = some (.cells #[.slice (some ⟨N + 1 + 1 + 1, 0, none⟩) n n] 44 (0, 0)) := by rw [← hw6, ← hbn]; exact heap_alloc_new w5 _
  have hB3 : Below N w ((((w.alloc (.cells #[.slice (some ⟨q, o, none⟩) n cc] 44)).alloc (.cells #[.slice none 0 0] 44)).alloc (.cells #[.int .i64 (-1)] 3))) := by
    rw [← hN]
    exact (((Below.refl _ w).alloc (Nat.le_refl _) _).alloc (by simp) _).alloc (by simp; omega) _
  have hy0 : ((((w.alloc (.cells #[.slice (some ⟨q, o, none⟩) n cc] 44)).alloc (.cells #[.slice none 0 0] 44)).alloc (.cells #[.int .i64 (-1)] 3))).heap[N]? = some (.cells #[.slice (some ⟨q, o, none⟩) n cc] 44 (0, 0)) := by
    have h := heap_alloc_new w (.cells #[.slice (some ⟨q, o, none⟩) n cc] 44)
    rw [hN] at h
    exact (Below.heap_alloc _ _ N (by simp; omega)).trans ((Below.heap_alloc _ _ N (by simp; omega)).trans h)
  have hy1 : ((((w.alloc (.cells #[.slice (some ⟨q, o, none⟩) n cc] 44)).alloc (.cells #[.slice none 0 0] 44)).alloc (.cells #[.int .i64 (-1)] 3))).heap[N + 1]? = some (.cells #[.slice none 0 0] 44 (0, 0)) := by
    have h := heap_alloc_new (w.alloc (.cells #[.slice (some ⟨q, o, none⟩) n cc] 44)) (.cells #[.slice none 0 0] 44)
    rw [World.size_alloc, hN] at h
    exact (Below.heap_alloc _ _ (N + 1) (by simp; omega)).trans h
  have hk6 : ∀ k, k < N + 3 → w6.heap[k]? = ((((w.alloc (.cells #[.slice (some ⟨q, o, none⟩) n cc] 44)).alloc (.cells #[.slice none 0 0] 44)).alloc (.cells #[.int .i64 (-1)] 3))).heap[k]? := fun k hk => (hb6.block k (by omega)).trans (hb5.out.block k (by omega))
  have HBW6 : Hid (Below N w w6) := Lib.hid ((hB3.trans (hb5.out.mono (by omega))).trans (hb6.mono (by omega)))
  have HMK0 : Hid (MK w6 bn N (N + 1) (N + 1 + 1 + 1) n (bn + 1) q o cc C (.slice none 0 0) []) := Lib.hid {
    b1 := hx6
    b2 := (hk6 N (by omega)).trans hy0
    b3 := (hk6 (N + 1) (by omega)).trans hy1
    nb := by
      rw [hb6.block (N + 1 + 1 + 1) (by omega), hr5.out]
      congr 2
      unfold fillV Slices
      congr 1
      refine List.map_congr_left fun i hi => ?_
      rw [numF_nil, if_pos (by simpa using hi)]
    cl := fun i hi => (World.cell?_of_block (HBW6.out.block q HQ.out)).trans (HC.out i (by rw [HNN.out]; exact hi)).1
    rf := World.ownsRow_nil _ _ _ _
    far := ⟨by omega, by omega, by omega, by omega, by omega, by omega⟩
    ne := ⟨by omega, by omega, by omega, by omega, by omega, by omega, by omega⟩ }
  rw [hbn, hw6]
  have HSZ6 := Lib.hid hs6
  have HQN := Lib.hid hN4
  clear hB3 hy0 hy1 hk6 hx6 hb6 hw6 hbn hr5 hb5 c7 HRP HREP hN3 hN4 hs6 e0 hN
  have HCN : Hid (∀ i, i < n → C i < n) := Lib.hid (fun i hi => by have := (HC.out i (by rw [HNN.out]; exact hi)).2; rw [HNN.out] at this; exact this)
  have HNUM0 := Lib.hid (number_far bn N (N + 1) (N + 1 + 1 + 1) n (bn + 1) q o cc 0 C (.slice none 0 0) [] w6 HMK0.out h0 (HCN.out 0 h0) (by simp))
  have HNUM0 : Hid (Calls Try.prog 43 #[.int .i64 0, .pointer (some ⟨bn, 0, none⟩), .pointer (some ⟨N, 0, none⟩), .pointer (some ⟨N + 1, 0, none⟩)] w6 fun e w' => e = .returned (.int .i64 (numK C (pushK C [] 0) 0 : Nat)) ∧ (∃ v', Hid (MK w' bn N (N + 1) (N + 1 + 1 + 1) n (bn + 1) q o cc C v' (pushK C [] 0))) ∧ Hid (∀ k, k < w6.heap.size → some k ≠ (Value.slice none 0 0).ownBlock → k ≠ N + 1 + 1 + 1 → k ≠ N + 1 → w'.heap[k]? = w6.heap[k]?) ∧ Hid (∀ K, K ≤ N + 1 + 1 + 1 → K ≤ N + 1 → K ≤ bn + 1 → Below K w6 w')) := HNUM0
  go_upto_region 7 with (go_at_call 43; (with_reducible refine HNUM0.out.mono ?_); rintro e w7 ⟨rfl, ⟨v7, hm7⟩, hk7, hb7⟩)
  have HB7 : Hid (Below N w w7) := Lib.hid (HBW6.out.trans (hb7.out N (by omega) (by omega) (by have := HQN.out; omega)))
  have HM7 : Hid (∃ v', MK w7 bn N (N + 1) (N + 1 + 1 + 1) n (bn + 1) q o cc C v' (walkK (nextP m) C 0 0)) := Lib.hid ⟨v7, hm7.out⟩
  clear hm7 hk7 hb7 HNUM0 HMK0
  go_wp2_with fail
  go_loopw [8] (fun u wr => ∃ (k : Nat) (oa : Option Addr) (oc : Nat), u = .slice oa k oc ∧ k ≤ n ∧ Hid (k ≤ (walkK (nextP m) C 0 k).length) ∧ Hid (∃ vs, RowsM wr (bn + 1) (.slice oa k oc) vs (leastP (accAt m) (nextP m) C (walkK (nextP m) C 0 k) ((walkK (nextP m) C 0 k).take k))) ∧ Hid (∃ v', MK wr bn N (N + 1) (N + 1 + 1 + 1) n (bn + 1) q o cc C v' (walkK (nextP m) C 0 k)) ∧ Hid (Below N w wr)) (fun u _ => n + 1 - lenV u)
  case atStart => exact ⟨0, none, 0, rfl, Nat.zero_le _, Lib.hid (Nat.zero_le _), Lib.hid ⟨[], RowsM.nil _ _⟩, HM7, HB7⟩
  case round =>
    clear HM7 HB7
    obtain ⟨k, oa, oc, rfl, hkn, HKL, HRW, HMK, HBW⟩ := hrel
    have hNX : ∀ s b y, s < m.length → b < 256 → nextP m s b = some y → y < m.length := fun s b y hs _ h => nextP_lt hf hs h
    have hLlt := walkK_lt (key := C) (next := nextP m) (s0 := 0) (n := m.length) (by rw [HNN.out]; exact h0) hNX k
    have hLnd := walkK_nodup (nextP m) C 0 k
    have hCn : ∀ x, x < m.length → C x < m.length := fun x hx => by rw [HNN.out] at hx ⊢; exact HCN.out x hx
    have hLn := keys_len hLnd hLlt hCn
    rw [HNN.out] at hLn
    obtain ⟨fv, hmk⟩ := HMK.out
    obtain ⟨vs, hrm⟩ := HRW.out
    obtain ⟨fa, fc, rfl⟩ := row_form hmk.rf
    have cf : wr.cell? ⟨N + 1, 0, none⟩ = some (.slice fa (walkK (nextP m) C 0 k).length fc) := (cell_of_row wr (N + 1) 0 _ _ _ hmk.b3).trans rfl
    have HMK1 := Lib.hid hmk
    have HRM := Lib.hid hrm
    by_cases hlt : k < (walkK (nextP m) C 0 k).length
    · obtain ⟨s, hs⟩ : ∃ s, (walkK (nextP m) C 0 k)[k]? = some s := ⟨_, List.getElem?_eq_getElem hlt⟩
      have hsn : s < n := by have := hLlt s (List.mem_of_getElem? hs); rw [HNN.out] at this; exact this
      have hsm : s < m.length := by rw [HNN.out]; exact hsn
      have HST := Lib.hid (leastP_step (acc := accAt m) hs)
      have HWK := Lib.hid (walkK_at hs)
      obtain ⟨fb, fcc, hfe, hfc⟩ := row_cell hmk.rf (by omega)
      cases hfe
      have cs : wr.cell? ⟨fb, k, none⟩ = some (.int .i64 (s : Nat)) := hfc k _ (by unfold plcL; rw [List.getElem?_map, hs]; rfl)
      have HLLT := Lib.hid hLlt
      have HLND := Lib.hid hLnd
      obtain ⟨L, hL⟩ : ∃ L, walkK (nextP m) C 0 k = L := ⟨_, rfl⟩
      rw [hL] at HST HWK HMK1 HRM cf hlt hLn HLLT HLND
      obtain ⟨ll, hll⟩ : ∃ ll, L.length = ll := ⟨_, rfl⟩
      have HLLN := Lib.hid hll
      rw [hll] at cf hlt hLn
      have hd : decide ((k : Int) < ll) = true := decide_eq_true (by omega)
      have hki : (k : Int) < ll := by omega
      obtain ⟨M, hM⟩ : ∃ M, leastP (accAt m) (nextP m) C L (L.take k) = M := ⟨_, rfl⟩
      rw [hM] at HRM HST
      have HMV : Hid (MachAt wr (.slice va n vc) m) := Lib.hid (by have h9 := HV.out.below (show Below w.heap.size w wr by rw [HN.out]; exact HBW.out); rw [HNN.out] at h9; exact h9)
      have HTG := Lib.hid (targets_any (.slice va n vc) m (s : Nat) wr HMV.out hl hm (.inr ⟨s, rfl, hsm⟩) (fun x hx => by obtain ⟨j, hj, rfl⟩ := List.getElem_of_mem hx; exact (hf j hj).1))
      have HKLM : Hid (M.length = k) := Lib.hid (by rw [← hM]; unfold leastP; rw [List.length_map, List.length_take, hll]; omega)
      have HKN : Hid (k + 1 ≤ n) := Lib.hid (by omega)
      clear hmk hrm hfc hs hL hll hM HMK HRW HKL hLlt hLnd hNX hCn hLn
      go_upto_region 11 with (first
        | (go_at_call 44; (with_reducible refine HTG.out.mono ?_); rintro e w2 ⟨rfl, hb2⟩)
        | (refine wpList_store_ints w2.heap.size (fun _ => 0) (nextS m (s : Nat)) (by unfold IBlk; rw [← zero_ints]; exact heap_alloc_new w2 _) rfl _ _ rfl rfl rfl ?_))
      obtain ⟨T, hT⟩ : ∃ T, w2.heap.size = T := ⟨_, rfl⟩
      have hTr : wr.heap.size ≤ T := by rw [← hT]; exact hb2.size
      have hBr : bn + 1 ≤ wr.heap.size := HMK1.out.far.2.2.2.2.2
      have hI0 : IBlk (w2.alloc (.cells Try.zeroCells49 49)) T fun _ => 0 := by unfold IBlk; rw [← hT, ← zero_ints]; exact heap_alloc_new w2 _
      rw [hT]
      have hI3 := hI0.setRow (g := nextS m (s : Nat))
      have hb3 : Below wr.heap.size wr ((w2.alloc (.cells Try.zeroCells49 49)).setRow T (Ints (nextS m (s : Nat)))) := below_setRow (hb2.alloc hb2.size _) hTr _
      obtain ⟨w3, hw3⟩ : ∃ w3, (w2.alloc (.cells Try.zeroCells49 49)).setRow T (Ints (nextS m (s : Nat))) = w3 := ⟨_, rfl⟩
      rw [hw3] at hI3 hb3 ⊢
      have HTB : Hid (bn + 1 ≤ T) := Lib.hid (Nat.le_trans hBr hTr)
      have HI3 := Lib.hid hI3
      have HMK3 : Hid (∃ v', MK w3 bn N (N + 1) (N + 1 + 1 + 1) n (bn + 1) q o cc C v' (rowK (nextP m) C L s 0)) := Lib.hid ⟨_, HMK1.out.keep hb3.size hb3.block⟩
      have HRM3 := Lib.hid (HRM.out.below hb3)
      have HBW3 : Hid (Below N w w3) := Lib.hid (HBW.out.trans (hb3.mono (by have := HBW.out.size; have := HN.out; omega)))
      have HHF := Lib.hid hf
      clear hw3 hI3 hI0 hb3 hb2 hTr hBr hT cf cs HMK1 HRM HBW HMV HTG
      go_wp2_with fail
      go_loopw [35] (fun z ws => ∃ j : Nat, z = .int .i64 j ∧ j ≤ 256 ∧ Hid (IBlk ws T fun x => if x < j then gK (nextP m) C (rowK (nextP m) C L s 256) s x else nextS m (s : Nat) x) ∧ Hid (∃ v', MK ws bn N (N + 1) (N + 1 + 1 + 1) n (bn + 1) q o cc C v' (rowK (nextP m) C L s j)) ∧ Hid (RowsM ws (bn + 1) (.slice oa k oc) vs M) ∧ Hid (Below N w ws)) (fun z _ => 256 - (intOf z).toNat)
      case atStart => exact ⟨0, rfl, Nat.zero_le _, Lib.hid (HI3.out.congr fun x _ => by rw [if_neg (by omega)]), HMK3, HRM3, HBW3⟩
      case round =>
        clear HI3 HMK3 HRM3 HBW3
        obtain ⟨j, rfl, hj, HI, HMK, HRM, HBW⟩ := hrel
        by_cases hjl : j < 256
        · have hd2 : decide ((j : Int) < 256) = true := decide_eq_true (by omega)
          have hj256 : (j : Int) < 256 := by omega
          have c0 := HI.out.cell hjl
          rw [if_neg (show ¬ j < j by omega)] at c0
          rcases next_cases HHF.out hsm j with ⟨hno, hn1⟩ | ⟨y, hyes, hn1, hy⟩
          · rw [hn1] at c0
            have hne : ((-1 : Int) != -1) = false := by decide
            have HI2 := Lib.hid (HI.out.congr (g := fun x => if x < j + 1 then gK (nextP m) C (rowK (nextP m) C L s 256) s x else nextS m (s : Nat) x) fun x _ => by
              by_cases h1 : x < j
              · rw [if_pos h1, if_pos (by omega)]
              · by_cases h2 : x = j
                · subst h2; rw [if_neg h1, if_pos (by omega), gK_none hno, hn1]
                · rw [if_neg h1, if_neg (by omega)])
            have HMK2 : Hid (∃ v', MK wr bn N (N + 1) (N + 1 + 1 + 1) n (bn + 1) q o cc C v' (rowK (nextP m) C L s (j + 1))) := Lib.hid (by rw [rowK_no hno]; exact HMK.out)
            clear hno hn1
            go_wp2
            go_roundw
            case rel => exact ⟨j + 1, num_succ j, by omega, HI2, HMK2, HRM, HBW⟩
            case measure => simp only [intOf]; omega
          · rw [hn1] at c0
            have hne : ((y : Int) != -1) = true := by rw [bne_iff_ne]; omega
            have hyn : y < n := by rw [← HNN.out]; exact hy
            obtain ⟨v5, hm5⟩ := HMK.out
            have HM5 := Lib.hid hm5
            have hrl := rowK_lt (n := m.length) (next := nextP m) (key := C) (s := s) HLLT.out (fun b z _ h => nextP_lt HHF.out hsm h) j hj
            have hrn := keys_len (n := m.length) (rowK_nodup (next := nextP m) HLND.out s j) hrl (fun x hx => by rw [HNN.out] at hx ⊢; exact HCN.out x hx)
            have HNU := Lib.hid (number_far bn N (N + 1) (N + 1 + 1 + 1) n (bn + 1) q o cc y C v5 (rowK (nextP m) C L s j) wr hm5 hyn (HCN.out y hyn) (by rw [HNN.out] at hrn; omega))
            have HG := Lib.hid (gK_row (key := C) (L := L) hyes hjl)
            rw [← HG.out] at HNU
            have HRK := Lib.hid (rowK_some (key := C) (L := L) hyes)
            rw [← HRK.out] at HNU
            obtain ⟨gj, hgj⟩ : ∃ gj, gK (nextP m) C (rowK (nextP m) C L s 256) s j = gj := ⟨_, rfl⟩
            have HGJ := Lib.hid hgj
            rw [hgj] at HNU
            have HTS := Lib.hid HI.out.lt
            clear hrl hrn hyes hn1 hy hm5 hgj
            go_upto_region 16 with (go_at_call 43; (with_reducible refine HNU.out.mono ?_); rintro e w7 ⟨rfl, ⟨v7, hm7⟩, hk7, hb7⟩; have HI7 := Lib.hid (HM5.out.ablk HI.out HTB.out hk7.out); have c7 := HI7.out.cell hjl; have z7 := free_cells (j := j) HI7.out)
            obtain ⟨w8, hw8⟩ : ∃ w8, w7.setCell ⟨T, j, none⟩ (.int .i64 gj) = w8 := ⟨_, rfl⟩
            have hRM7 := HM5.out.rows HRM.out hk7.out
            have hs8 : w8.heap.size = w7.heap.size := by rw [← hw8]; simp
            have hk8 : ∀ k, k < w7.heap.size → k ≠ T → w8.heap[k]? = w7.heap[k]? := fun k _ h => by rw [← hw8]; exact Below.heap_setCell _ _ _ _ h
            have HI8 : Hid (IBlk w8 T fun x => if x < j + 1 then gK (nextP m) C (rowK (nextP m) C L s 256) s x else nextS m (s : Nat) x) := Lib.hid (by
              rw [← hw8]
              refine HI7.out.set (k := j) (v := gj) (by show (if j < j + 1 then _ else _) = _; rw [if_pos (by omega)]; exact HGJ.out) fun x _ h1 => ?_
              show (if x < j then _ else _) = (if x < j + 1 then _ else _)
              by_cases h2 : x < j
              · rw [if_pos h2, if_pos (by omega)]
              · rw [if_neg h2, if_neg (by omega)])
            have HMK8 : Hid (∃ v', MK w8 bn N (N + 1) (N + 1 + 1 + 1) n (bn + 1) q o cc C v' (rowK (nextP m) C L s (j + 1))) := Lib.hid ⟨v7, hm7.out.but HI7.out (by decide) HTB.out (by omega) hk8⟩
            have HRM8 : Hid (RowsM w8 (bn + 1) (.slice oa k oc) vs M) := Lib.hid (hRM7.typed fun g cs t hg ht => (hk8 g (lt_of_block hg) (fun e9 => by
              subst e9
              have h2 := HI7.out
              unfold IBlk at h2
              rw [hg] at h2
              have := (Obj.cells.inj (Option.some.inj h2)).2.1
              subst this
              revert ht; decide)).trans hg)
            have HBW8 : Hid (Below N w w8) := Lib.hid (by rw [← hw8]; exact (HBW.out.trans (hb7.out N (by omega) (by omega) (by have := HQN.out; omega))).setCell (p := ⟨T, j, none⟩) (by show N ≤ T; have := HTB.out; have := HQN.out; omega) _)
            rw [hw8]
            clear hw8 hRM7 hs8 hk8 c7 z7 HI7 hm7 hk7 hb7 HM5 HNU HG HRK HGJ HI HRM HBW HMK HTS c0
            go_wp2
            go_roundw
            case rel => exact ⟨j + 1, num_succ j, by omega, HI8, HMK8, HRM8, HBW8⟩
            case measure => simp only [intOf]; omega
        · obtain rfl : j = 256 := by omega
          have hd2 : decide (((256 : Nat) : Int) < 256) = false := by decide
          have HI2 : Hid (IBlk wr T (gK (nextP m) C (rowK (nextP m) C L s 256) s)) := Lib.hid (HI.out.congr fun x hx => by rw [if_pos hx])
          clear HI
          obtain ⟨fv, hmk⟩ := HMK.out
          have HMKE := Lib.hid hmk
          have hbw : Below w.heap.size w wr := by rw [HN.out]; exact HBW.out
          obtain ⟨xa, xc, e1, hx⟩ := HV.out
          obtain ⟨mb, mo, av, e2, hca, _, _⟩ := hx s hsm
          cases e1
          subst e2
          have HMB : Hid (mb < N) := Lib.hid (by have h9 : mb < w.heap.size := cell_lt hca; rw [← HN.out]; exact h9)
          have ca := cell_below hbw hca
          rw [← accS_at hsm, show accS m (s : Nat) = accAt m s from rfl] at ca
          obtain ⟨ac, hac⟩ : ∃ ac, accAt m s = ac := ⟨_, rfl⟩
          obtain ⟨G, hG⟩ : ∃ G, gK (nextP m) C (rowK (nextP m) C L s 256) s = G := ⟨_, rfl⟩
          rw [hac] at ca HST
          rw [hG] at HST HI2
          have hsni : (s : Int) < n := by omega
          have HOK : Hid (wr.ownsRow (bn + 1) 42 2 (.slice oa k oc) k (flatM vs)) := Lib.hid (by have h := HRM.out.own; rw [HKLM.out] at h; exact h)
          have HKL2 : Hid (k + 1 ≤ (walkK (nextP m) C 0 (k + 1)).length) := Lib.hid (by
            rw [HWK.out]
            obtain ⟨X, hX⟩ := rowK_more (nextP m) C L s 0 256
            rw [Nat.zero_add] at hX
            rw [hX, show rowK (nextP m) C L s 0 = L from rfl, List.length_append]
            have := HLLN.out; omega)
          obtain ⟨i1, i1a, i1b, i1c, i1d⟩ := info_parts infoState
          have HIS := Lib.hid (⟨i1a, i1b, i1c, i1d⟩ : _ ∧ _ ∧ _ ∧ _)
          have hk4 := HKN.out
          have hsz0 : bn + 1 ≤ wr.heap.size := hmk.far.2.2.2.2.2
          clear hx hca hbw hac hG hmk HMK i1a i1b i1c i1d
          go_upto_region 17 with fail
          refine region_goes 12 12 rfl (fun W => W.cell? ⟨mb, mo + s * 2, none⟩ = some (.int .u64 (ac : Nat)) ∧ IBlk W T G) mixed ⟨ca, HI2.out⟩ (fun hHeld => ?_)
          refine goes_take0 (i := 0) (v := ?gwm1) rfl (by kernel_rfl) (by kernel_rfl) (by kernel_rfl) rfl (fun _ _ _ h => h) (Or.inl ⟨by rfl, ?gxm1⟩) (by assumption) ?gqm1
          case gxm1 => (intro W9 _; first | (go_simp; done) | (go_simp; with_reducible rfl))
          simp only [Act.put, getElem_toArray, getElem_cons_succ, getElem_cons_zero, setIfInBounds_toArray, set_cons_zero, set_cons_succ]
          refine goes_take0 (i := 1) (v := ?gwm2) rfl (by kernel_rfl) (by kernel_rfl) (by kernel_rfl) rfl (fun _ _ _ h => h) (Or.inl ⟨by rfl, ?gxm2⟩) (by assumption) ?gqm2
          case gxm2 => (intro W9 _; first | (go_simp; done) | (go_simp; with_reducible rfl))
          simp only [Act.put, getElem_toArray, getElem_cons_succ, getElem_cons_zero, setIfInBounds_toArray, set_cons_zero, set_cons_succ]
          refine goes_take0 (i := 2) (v := ?gwm3) rfl (by kernel_rfl) (by kernel_rfl) (by kernel_rfl) rfl (fun _ _ _ h => h) (Or.inl ⟨by rfl, ?gxm3⟩) (by assumption) ?gqm3
          case gxm3 => (intro W9 _; first | (go_simp; done) | (go_simp; with_reducible rfl))
          simp only [Act.put, getElem_toArray, getElem_cons_succ, getElem_cons_zero, setIfInBounds_toArray, set_cons_zero, set_cons_succ]
          refine goes_take0 (i := 3) (v := ?gwm4) rfl (by kernel_rfl) (by kernel_rfl) (by kernel_rfl) rfl (fun _ _ _ h => h) (Or.inl ⟨by rfl, ?gxm4⟩) (by assumption) ?gqm4
          case gxm4 => (intro W9 _; first | (go_simp; done) | (go_simp; with_reducible rfl))
          simp only [Act.put, getElem_toArray, getElem_cons_succ, getElem_cons_zero, setIfInBounds_toArray, set_cons_zero, set_cons_succ]
          refine goes_take0 (i := 4) (v := ?gwm5) rfl (by kernel_rfl) (by kernel_rfl) (by kernel_rfl) rfl (fun _ _ _ h => h) (Or.inl ⟨by rfl, ?gxm5⟩) (by assumption) ?gqm5
          case gxm5 => (intro W9 _; first | (go_simp; done) | (go_simp; with_reducible rfl))
          simp only [Act.put, getElem_toArray, getElem_cons_succ, getElem_cons_zero, setIfInBounds_toArray, set_cons_zero, set_cons_succ]
          refine goes_take0 (i := 5) (v := .int .u64 (ac : Nat)) rfl (by kernel_rfl) (by kernel_rfl) (by kernel_rfl) rfl (fun _ _ _ h => h) (Or.inl ⟨by rfl, ?gxm6⟩) (by assumption) ?gqm6
          case gxm6 => (intro W9 hW9; have k9 := hW9.1; first | (go_simp; done) | (go_simp; with_reducible rfl))
          simp only [Act.put, getElem_toArray, getElem_cons_succ, getElem_cons_zero, setIfInBounds_toArray, set_cons_zero, set_cons_succ]
          refine goes_take0 (i := 6) (v := .agg (Ints G)) rfl (by kernel_rfl) (by kernel_rfl) (by kernel_rfl) rfl (fun _ _ _ h => h) (Or.inl ⟨by rfl, ?gxm7⟩) (by assumption) ?gqm7
          case gxm7 => (intro W9 hW9; exact exec_load_ints hW9.2 (.tmp 10) rfl rfl)
          simp only [Act.put, getElem_toArray, getElem_cons_succ, getElem_cons_zero, setIfInBounds_toArray, set_cons_zero, set_cons_succ]
          refine goes_one (i := 7) (by kernel_rfl) rfl (fun K9 hK9 => ?_)
          go_simp
          with_reducible refine (darcs_any G wr.drew).mono ?_
          rintro e w4 ⟨u, rfl, hu, hb⟩
          obtain ⟨ua, uc, rfl⟩ := row_form hu.out
          have hb4 : Below wr.heap.size wr w4 := ((Below.refl wr.heap.size wr).drew).trans (hb.out.mono (by simp))
          have HB4 := Lib.hid hb4
          have HU4 : Hid (w4.ownsRow (bn + 1) 38 3 (.slice ua (arcsS G).length uc) (arcsS G).length (flatA (arcsS G))) := Lib.hid (own_weak hu.out hsz0)
          have hS4 : w4.cell? ⟨mb, mo + s * 2, none⟩ = some (.int .u64 (ac : Nat)) ∧ IBlk w4 T G := ⟨cell_below hb4 ca, HI2.out.below hb4⟩
          obtain ⟨gl, hgl⟩ : ∃ gl, (arcsS G).length = gl := ⟨_, rfl⟩
          have HGL := Lib.hid hgl
          rw [hgl] at HU4 ⊢
          refine hK9.out _ _ (fun _ => hS4) (fun _ => ?_)
          clear hK9 K9 hHeld hu hb hb4 hgl
          have hHeld := hS4
          try simp only [Act.put, getElem_toArray, getElem_cons_succ, getElem_cons_zero, setIfInBounds_toArray, set_cons_zero, set_cons_succ]
          refine goes_take0 (i := 8) (v := .agg #[.int .u64 (ac : Nat), .slice ua gl uc]) rfl (by kernel_rfl) (by kernel_rfl) (by kernel_rfl) rfl (fun _ _ _ h => h) (Or.inl ⟨by rfl, ?gxm8⟩) (by assumption) ?gqm8
          case gxm8 => (intro W9 _; first | (go_simp; done) | (go_simp; with_reducible rfl))
          simp only [Act.put, getElem_toArray, getElem_cons_succ, getElem_cons_zero, setIfInBounds_toArray, set_cons_zero, set_cons_succ]
          refine goes_one (i := 9) (by kernel_rfl) rfl (fun K9 hK9 => ?_)
          go_simp
          have hb9 := new_one w4 (.cells #[.int .u64 (ac : Nat), .slice ua gl uc] 42)
          have hN9 : (w4.alloc (.cells #[.int .u64 (ac : Nat), .slice ua gl uc] 42)).heap[w4.heap.size]? = _ := heap_alloc_new w4 _
          have hs9 : (w4.alloc (.cells #[.int .u64 (ac : Nat), .slice ua gl uc] 42)).heap.size = w4.heap.size + 1 := World.size_alloc _ _
          obtain ⟨w9, hw9⟩ : ∃ w9, w4.alloc (.cells #[.int .u64 (ac : Nat), .slice ua gl uc] 42) = w9 := ⟨_, rfl⟩
          rw [hw9] at hb9 hN9 hs9
          try rw [hw9]
          have hS9 : w9.cell? ⟨mb, mo + s * 2, none⟩ = some (.int .u64 (ac : Nat)) ∧ IBlk w9 T G := ⟨cell_below hb9 hS4.1, hS4.2.below hb9⟩
          have HO9 := Lib.hid (own_below (own_below HOK.out HB4.out) hb9)
          have HB9 := Lib.hid hb9
          refine hK9.out _ _ (fun _ => hS9) (fun _ => ?_)
          clear hK9 K9 hHeld hw9 hb9
          have hHeld := hS9
          refine goes_one (i := 10) (by kernel_rfl) rfl (fun K9 hK9 => ?_)
          refine step_append_lies _ rfl (.tmp 50) (.tmp 59) 23 rfl (bn + 1) 42 i1 (.agg #[.int .u64 0, .slice none 0 0]) 2 32 Try.underlying23 HIS.out.1 HIS.out.2.1 HIS.out.2.2.1 HIS.out.2.2.2 rfl (by decide) (.slice oa k oc) k (flatM vs) rfl HO9.out ⟨w4.heap.size, 0, none⟩ 1 1 [.int .u64 (ac : Nat), .slice ua gl uc] rfl rfl (news_in (cs := #[.int .u64 (ac : Nat), .slice ua gl uc]) hN9) (by simp [Value.oneCell']) (by omega) (by unfold maxLen; omega) (by omega) (by have := HB4.out.size; omega) (w4.heap.size + 1) hs9 ?_
          intro g9 cap9 w8 h2 h3 h4 h5
          have hB9r : Below wr.heap.size wr w9 := HB4.out.trans (HB9.out.mono HB4.out.size)
          have hS8 : w8.cell? ⟨mb, mo + s * 2, none⟩ = some (.int .u64 (ac : Nat)) ∧ IBlk w8 T G := by
            refine ⟨(h3.cell_far _ (show mb < w9.heap.size by have := HMB.out; have := HQN.out; have := hB9r.size; omega) (fun e => by have := (HO9.out.lt mb e.symm).1; have := HMB.out; have := HQN.out; omega)).trans hS9.1, (h3.block T hS9.2.lt (fun e => ?_)).trans hS9.2⟩
            obtain ⟨c2, x2⟩ := row_block HO9.out e.symm
            rw [show w9.heap[T]? = _ from hS9.2] at x2
            exact absurd (Obj.cells.inj (Option.some.inj x2)).2.1 (by decide)
          have HMK8 : Hid (∃ v', MK w8 bn N (N + 1) (N + 1 + 1 + 1) n (bn + 1) q o cc C v' (walkK (nextP m) C 0 (k + 1))) := Lib.hid (by rw [HWK.out]; exact ⟨_, HMKE.out.row HOK.out (by decide) hB9r h3⟩)
          have HRW8 : Hid (∃ vs, RowsM w8 (bn + 1) (.slice (some ⟨g9, 0, none⟩) (k + 1) cap9) vs (leastP (accAt m) (nextP m) C (walkK (nextP m) C 0 (k + 1)) ((walkK (nextP m) C 0 (k + 1)).take (k + 1)))) := Lib.hid ⟨_, by
            rw [HST.out]
            exact (HRM.out.below HB4.out).push (s := ⟨ac, arcsS G⟩) (u := .slice ua gl uc) (by have h := HU4.out; rw [← HGL.out] at h ⊢; exact h) HB9.out h3 (by rw [HKLM.out]; exact h2)⟩
          have HBW8 : Hid (Below N w w8) := Lib.hid (push3 HBW.out HOK.out (show N ≤ bn + 1 by have := HQN.out; omega) (by have := HQN.out; omega) hB9r h3)
          refine hK9.out _ _ (fun _ => hS8) (fun _ => ?_)
          clear hK9 K9 hHeld h2 h3 h4 h5 hS9 hS4 hN9 hs9 hB9r ca
          have hHeld := hS8
          try simp only [Act.put, getElem_toArray, getElem_cons_succ, getElem_cons_zero, setIfInBounds_toArray, set_cons_zero, set_cons_succ]
          refine goes_take0 (i := 11) (v := ?gwm9) rfl (by kernel_rfl) (by kernel_rfl) (by kernel_rfl) rfl (fun _ _ _ h => h) (Or.inl ⟨by rfl, ?gxm9⟩) (by assumption) ?gqm9
          case gxm9 => (intro W9 _; first | (go_simp; done) | (go_simp; with_reducible rfl))
          simp only [Act.put, getElem_toArray, getElem_cons_succ, getElem_cons_zero, setIfInBounds_toArray, set_cons_zero, set_cons_succ]
          refine goes_done (by kernel_rfl) ?_ _
          clear hHeld hS8 HRM HBW HI2
          go_wp2_with fail
          exact ⟨⟨k + 1, _, _, rfl, hk4, HKL2, HRW8, HMK8, HBW8⟩, by simp only [lenV]; omega⟩
    · have hke : (walkK (nextP m) C 0 k).length = k := by have := HKL.out; omega
      have HMM : Hid (MachAt wr (.slice oa k oc) (leastK (accAt m) (nextP m) C (walkK (nextP m) C 0 k))) := Lib.hid (by have h := hrm.mach; rw [List.take_of_length_le (by omega), leastP_all] at h; exact h)
      have HKE := Lib.hid hke
      rw [hke] at cf
      have hd : decide ((k : Int) < k) = false := by simp
      clear hke hrm hmk hlt hLlt hLnd hNX hCn hLn HMK HRW HKL HMK1 HRM
      go_wp2
      exact bodyPost_ret (v := .slice oa k oc) (by simp [results, Try.results22, go_sem, *]) rfl ⟨_, k, rfl, HKE.out, HMM, HBW⟩
end Go.Proofs.Ytamgldhnfcikbaa
set_option maxRecDepth 100000
namespace Go.Proofs.Ytamgldhnfcikbaa
open Go.RowKit

theorem sound_len {m : List Sta} (hm : Mays m) (h : 0 < (soundS m).length) : soundS m = m ∧ Fits m ∧ m.length ≤ 4096 ∧ ∀ s ∈ m, s.arcs.length ≤ 256 := by
  have h1 : soundS m = m := by
    unfold soundS at h ⊢
    split at h
    · next e => rw [if_pos e]
    · simp at h
  have h2 := check_fits (soundS_ok m)
  rw [h1] at h2
  have hf : Fits m := fun s hs => ⟨h2.2 _ (List.getElem_mem hs), fun a ha => ((hm _ (List.getElem_mem hs)).2 a ha).2.1⟩
  refine ⟨h1, hf, h2.1, fun s hs => ?_⟩
  obtain ⟨i, hi, rfl⟩ := List.getElem_of_mem hs
  exact fits_len (hf i hi).1 (hf i hi).2
set_option linter.unusedSimpArgs false in
set_option maxHeartbeats 4000000 in
theorem puseful_wide (v : Value) (m : List Sta) (w : World) (hv : MachAt w v m) (hl : ∀ s ∈ m, s.arcs.length < 9223372036854775808) (hm : Mays m) :
    Calls Try.prog 11 #[v] w (PUse (soundS m) w.heap.size w) := by
  by_cases h0 : 0 < (soundS m).length
  · exact puseful_any v m w hv (fun s hs => by have := (sound_len hm h0).2.2.2 s hs; omega) hm
  · have HR := Lib.hid (show Calls Try.prog 30 #[v] w fun e w' => ∃ u, e = .returned u ∧ Hid (MachAt w u (soundS m)) ∧ Hid (Below w.heap.size w w') from sound_any v m w hv hl hm)
    have hz : soundS m = [] := List.eq_nil_of_length_eq_zero (by omega)
    rw [hz] at HR ⊢
    obtain ⟨N, hN⟩ : ∃ N, w.heap.size = N := ⟨_, rfl⟩
    rw [hN]
    clear h0 hz hl hm hv
    go_enter Try.func11, Try.ntmps11
    go_wp2_with (go_at_call 30; refine HR.out.mono ?_; rintro e w5 ⟨u, rfl, hu, hb⟩; have HU := Lib.hid (hu.out.below hb.out); have HB5 := Lib.hid hb.out; obtain ⟨au, cu, rfl⟩ := hu.out.len; clear hu hb)
    exact bodyPost_ret (v := .slice none 0 0) (by simp [results, Try.results11, go_sem]) rfl ⟨by rw [← hN]; exact HB5, .inl ⟨rfl, rfl⟩⟩
set_option linter.unusedSimpArgs false in
set_option maxHeartbeats 4000000 in
theorem trimmed_none2 (v : Value) (m : List Sta) (w : World) (hv : MachAt w v m) (hl : ∀ s ∈ m, s.arcs.length < 9223372036854775808) (hm : Mays m) (h0 : (soundS m).length = 0) :
    Calls Try.prog 21 #[v] w fun e w' => e = .returned (.slice none 0 0) ∧ Hid (Below w.heap.size w w') := by
  have hus := puseful_wide v m w hv hl hm
  have hus2 : Calls Try.prog 11 #[v] w fun e w' => e = .returned (.slice none 0 0) ∧ Hid (Below w.heap.size w w') := hus.mono fun e w' hp => by
    obtain ⟨hb1, hp2⟩ := hp
    rcases hp2 with ⟨_, e1⟩ | ⟨h9, _⟩
    · exact ⟨e1, hb1⟩
    · omega
  obtain ⟨av, cv, rfl⟩ := hv.len
  clear hus hv hl hm h0
  have hd : decide ((0 : Int) < 0) = false := by simp
  go_enter Try.func21, Try.ntmps21
  go_upto_region 2 with (go_at_call 11; refine hus2.mono ?_; clear hus2; rintro e w1 ⟨he, HB1⟩; rw [he]; clear he)
  have hmk := make_ints (c := (0 : Int)) (n := 0) rfl (by omega) w1
  have HB2 := Lib.hid (HB1.out.trans ((new_one w1 (.cells (natsV 0 fun _ => 0).toArray 3)).mono HB1.out.size))
  obtain ⟨w2, hw2⟩ : ∃ w2, w1.alloc (.cells (natsV 0 fun _ => 0).toArray 3) = w2 := ⟨_, rfl⟩
  rw [hw2] at hmk HB2
  clear hw2 HB1
  go_upto_region 5 with fail
  clear hmk
  go_loopw [5, 19] (fun u z wr => u = .slice none 0 0 ∧ z = .int .i64 0 ∧ Hid (Below w.heap.size w wr)) (fun _ _ _ => 0)
  case atStart => exact ⟨rfl, rfl, HB2⟩
  case round =>
    clear HB2
    obtain ⟨rfl, rfl, HB⟩ := hrel
    go_wp2
    go_loopw [43] (fun z wr => z = .int .i64 0 ∧ Hid (Below w.heap.size w wr)) (fun _ _ => 0)
    case atStart => exact ⟨rfl, HB⟩
    case round =>
      clear HB
      obtain ⟨rfl, HB⟩ := hrel
      go_wp2
      exact bodyPost_ret (v := .slice none 0 0) (by simp [results, Try.results21, go_sem, *]) rfl ⟨rfl, HB⟩
theorem trim_mays {m : List Sta} (u : Nat → Bool) (hm : Mays m) (hn : m.length ≤ 4096) : Mays (trimS u m) := by
  intro z hz
  obtain ⟨x, hx, rfl⟩ := List.getElem_of_mem hz
  clear hz
  obtain ⟨s, hs, k, rfl⟩ := trim_from hx
  rw [trim_arcs k hs hx]
  refine ⟨?_, fun a ha => ?_⟩
  · show accS m (s : Nat) < _
    rw [accS_at hs]; exact (hm _ (List.getElem_mem hs)).1
  · obtain ⟨a0, b1, b2, b3, b4, b5, b6, b7⟩ := trimA_mem ha
    have h1 := (hm _ (List.getElem_mem hs)).2 a0 b1
    have h2 := keptN_lt b4 (n := m.length) (by omega)
    have h3 := keptN_le u m.length
    refine ⟨by rw [b2]; exact h1.1, by rw [b3]; exact h1.2.1, ?_, ?_⟩ <;> rw [b7] <;> omega
theorem trim_len_le (u : Nat → Bool) (m : List Sta) : (trimS u m).length ≤ m.length := by rw [trimS_len]; exact keptN_le u m.length
def LeastP (m K : List Sta) : Prop :=
  ((soundS m).length = 0 ∧ K = []) ∨ (soundS m = m ∧ 0 < m.length ∧ ∃ U, Used m U ∧ ((U 0 = false ∧ (trimS U m).length = 0 ∧ K = []) ∨ (U 0 = true ∧ 0 < (trimS U m).length ∧ ∃ (C : Nat → Nat) (i : Nat), (∀ s t, s < (trimS U m).length → t < (trimS U m).length → (C s = C t ↔ AlikeS (trimS U m) (trimS U m) (s : Nat) (t : Nat))) ∧ (∀ s, s < (trimS U m).length → C s < (trimS U m).length) ∧ (walkK (nextP (trimS U m)) C 0 i).length = i ∧ K = leastK (accAt (trimS U m)) (nextP (trimS U m)) C (walkK (nextP (trimS U m)) C 0 i))))
set_option linter.unusedSimpArgs false in
set_option maxHeartbeats 4000000 in
theorem merged_none (a0 : Option Addr) (c0 : Nat) (x : Value) (w : World) : Calls Try.prog 22 #[.slice a0 (0 : Nat) c0, x] w fun e w' => e = .returned (.slice none 0 0) ∧ Hid (Below w.heap.size w w') := by
  go_enter Try.func22, Try.ntmps22
  all_goals go_wp2_with fail
  all_goals exact bodyPost_ret (v := .slice none 0 0) (by simp [results, Try.results22, go_sem, *]) rfl ⟨rfl, Lib.hid (new_one w _)⟩
set_option linter.unusedSimpArgs false in
set_option maxHeartbeats 4000000 in
theorem pleast_any (v : Value) (m : List Sta) (w : World) (hv : MachAt w v m) (hl : ∀ s ∈ m, s.arcs.length < 9223372036854775808) (hm : Mays m) :
    Calls Try.prog 8 #[v] w fun e w' => ∃ u K, e = .returned u ∧ Hid (MachAt w' u K) ∧ Hid (LeastP m K) ∧ Hid (Below w.heap.size w w') := by
  obtain ⟨N, hN⟩ : ∃ N, w.heap.size = N := ⟨_, rfl⟩
  -- what remains behind trimmed
  have HZ : Hid (∀ (w1 : World) (a1 : Option Addr) (c1 : Nat), MachAt w1 (.slice a1 (0 : Nat) c1) []) := Lib.hid (fun w1 a1 c1 => ⟨a1, c1, rfl, fun i hi => by simp at hi⟩)
  have HE : Hid (∀ w : World, MachAt w (.slice none 0 0) []) := Lib.hid MachAt.nil
  by_cases h0 : 0 < (soundS m).length
  · obtain ⟨hs, hf, hn, hl2⟩ := sound_len hm h0
    have h0m : 0 < m.length := by rw [hs] at h0; exact h0
    have HT := Lib.hid (trimmed_any v m w hv (fun s hs => by have := hl2 s hs; omega) hm h0 hs)
    have HFM := Lib.hid (⟨hf, hm, hn, hs, h0m⟩ : Fits m ∧ Mays m ∧ m.length ≤ 4096 ∧ soundS m = m ∧ 0 < m.length)
    clear hv hl hm h0 hs hf hn hl2 h0m
    rw [hN]
    go_enter Try.func8, Try.ntmps8
    go_upto_region 2 with (go_at_call 21; refine HT.out.mono ?_; rintro e w1 ⟨u, U, he, HMU, HUS, HB1⟩; rw [he]; clear he)
    have HB1N : Hid (Below N w w1) := Lib.hid (by rw [← hN]; exact HB1.out)
    clear HT HB1
    by_cases hk : (trimS U m).length = 0
    · have hz : trimS U m = [] := List.eq_nil_of_length_eq_zero hk
      rw [hz] at HMU
      obtain ⟨a1, c1, rfl⟩ := HMU.out.len
      have HCL := Lib.hid (classes_none a1 c1 w1 HMU.out)
      have HLP : Hid (LeastP m []) := Lib.hid (by
        obtain ⟨hf, hm, hn, hs, h0m⟩ := HFM.out
        refine .inr ⟨hs, h0m, U, HUS.out, .inl ⟨?_, by rw [hz]; rfl, rfl⟩⟩
        cases e : U 0
        · rfl
        · have := keptN_lt e h0m
          rw [trimS_len] at hk; omega)
      clear hk hz HMU HUS
      go_wp2_with (first
        | (go_at_call 23; refine HCL.out.mono ?_; rintro e w2 ⟨⟨u2, he⟩, HB2⟩; rw [he]; clear he)
        | (go_at_call 22; refine (merged_none a1 c1 u2 w2).mono ?_; rintro e w3 ⟨he, HB3⟩; rw [he]; clear he))
      have HBE : Hid (Below N w w3) := Lib.hid (by
        have e1 := HB1N.out.size
        have e2 := HB2.out.size
        exact (HB1N.out.trans (HB2.out.mono (by rw [← hN]; omega))).trans (HB3.out.mono (by rw [← hN]; omega)))
      exact bodyPost_ret (v := .slice none 0 0) (by simp [results, Try.results8, go_sem, *]) rfl ⟨_, [], rfl, Lib.hid (HE.out w3), HLP, HBE⟩
    · have hk0 : 0 < (trimS U m).length := by omega
      have HCL : Hid (Calls Try.prog 23 #[u] w1 (ClsP (trimS U m) w1)) := Lib.hid (by
        obtain ⟨hf, hm, hn, hs, h0m⟩ := HFM.out
        exact classes_any u (trimS U m) w1 HMU.out (Nat.le_trans (trim_len_le U m) hn) hk0 (trim_fits U hf) (trim_mays U hm hn) (fun x hx => HUS.out.alive hf x hx))
      obtain ⟨au, cu, rfl⟩ := HMU.out.len
      have HLP : Hid (∀ (C : Nat → Nat) (i : Nat), (∀ s t, s < (trimS U m).length → t < (trimS U m).length → (C s = C t ↔ AlikeS (trimS U m) (trimS U m) (s : Nat) (t : Nat))) → (∀ s, s < (trimS U m).length → C s < (trimS U m).length) → (walkK (nextP (trimS U m)) C 0 i).length = i → LeastP m (leastK (accAt (trimS U m)) (nextP (trimS U m)) C (walkK (nextP (trimS U m)) C 0 i))) := Lib.hid (fun C i h1 h2 h3 => by
        obtain ⟨hf, hm, hn, hs, h0m⟩ := HFM.out
        obtain ⟨s, hs9, k, _⟩ := trim_from (m := m) (u := U) hk0
        exact .inr ⟨hs, h0m, U, HUS.out, .inr ⟨HUS.out.first hs9 k, hk0, C, i, h1, h2, h3, rfl⟩⟩)
      have HMG : Hid (∀ (cc : Nat) (C : Nat → Nat) (w2 : World), Below w1.heap.size w1 w2 → (∀ i, i < (trimS U m).length → w2.cell? ⟨w1.heap.size, i, none⟩ = some (.int .i64 (C i : Nat)) ∧ C i < (trimS U m).length) → Calls Try.prog 22 #[.slice au (trimS U m).length cu, .slice (some ⟨w1.heap.size, 0, none⟩) (trimS U m).length cc] w2 fun e w' => ∃ u i, e = .returned u ∧ (walkK (nextP (trimS U m)) C 0 i).length = i ∧ Hid (MachAt w' u (leastK (accAt (trimS U m)) (nextP (trimS U m)) C (walkK (nextP (trimS U m)) C 0 i))) ∧ Hid (Below w2.heap.size w2 w')) := Lib.hid (fun cc C w2 hb hc => by
        obtain ⟨hf, hm, hn, hs, h0m⟩ := HFM.out
        have hft := trim_fits U hf
        have hmt := trim_mays U hm hn
        exact merged_any _ (trimS U m) w1.heap.size 0 cc C w2 (HMU.out.below hb) (fun s hs => by
          obtain ⟨i, hi, rfl⟩ := List.getElem_of_mem hs
          have := fits_len (hft i hi).1 (hft i hi).2
          omega) hmt hft hk0 (Nat.le_trans (trim_len_le U m) hn) (fun i hi => by rw [Nat.zero_add]; exact hc i hi))
      clear hk hk0 HFM HUS
      generalize trimS U m = tm at *
      go_wp2_with (first
        | (go_at_call 23; refine HCL.out.mono ?_; rintro e w2 ⟨C, he, HC1, HC2, HB2⟩; rw [he]; clear he)
        | (go_at_call 22; refine (HMG.out tm.length C w2 HB2.out HC1.out).mono ?_; rintro e w3 ⟨ur, i, he, hwl, HMR, HB3⟩; rw [he]; clear he))
      have HBE : Hid (Below N w w3) := Lib.hid (by
        have e1 := HB1N.out.size
        have e2 := HB2.out.size
        exact (HB1N.out.trans (HB2.out.mono (by rw [← hN]; omega))).trans (HB3.out.mono (by rw [← hN]; omega)))
      have HLPE := Lib.hid (HLP.out C i HC2.out (fun s hs => (HC1.out s hs).2) hwl)
      exact bodyPost_ret (v := ur) (by simp [results, Try.results8, go_sem, *]) rfl ⟨ur, _, rfl, HMR, HLPE, HBE⟩
  · have HT := Lib.hid (trimmed_none2 v m w hv hl hm (by omega))
    have HLP : Hid (LeastP m []) := Lib.hid (.inl ⟨by omega, rfl⟩)
    clear hv hl hm h0
    rw [hN]
    go_enter Try.func8, Try.ntmps8
    go_upto_region 2 with (go_at_call 21; refine HT.out.mono ?_; rintro e w1 ⟨he, HB1⟩; rw [he]; clear he)
    have HB1N : Hid (Below N w w1) := Lib.hid (by rw [← hN]; exact HB1.out)
    have HCL := Lib.hid (classes_none none 0 w1 (HZ.out w1 none 0))
    clear HT HB1
    go_wp2_with (first
      | (go_at_call 23; refine HCL.out.mono ?_; rintro e w2 ⟨⟨u2, he⟩, HB2⟩; rw [he]; clear he)
      | (go_at_call 22; refine (merged_none none 0 u2 w2).mono ?_; rintro e w3 ⟨he, HB3⟩; rw [he]; clear he))
    have HBE : Hid (Below N w w3) := Lib.hid (by
      have e1 := HB1N.out.size
      have e2 := HB2.out.size
      exact (HB1N.out.trans (HB2.out.mono (by rw [← hN]; omega))).trans (HB3.out.mono (by rw [← hN]; omega)))
    exact bodyPost_ret (v := .slice none 0 0) (by simp [results, Try.results8, go_sem, *]) rfl ⟨_, [], rfl, Lib.hid (HE.out w3), HLP, HBE⟩
end Go.Proofs.Ytamgldhnfcikbaa
set_option maxRecDepth 100000
namespace Go.Proofs.Ytamgldhnfcikbaa
open Go.RowKit

def aliasF (n : Nat) (D : Nat → Nat → Bool) (s : Int) : Int := if s < 0 then -1 else if D s.toNat n = false then -1 else match (List.range n).find? (fun i => !D i s.toNat) with
  | none => s
  | some i => (i : Nat)
theorem alias_F {n : Nat} {D : Nat → Nat → Bool} {s : Int} : AliasP n D s (aliasF n D s) := by
  unfold aliasF
  by_cases h0 : s < 0
  · rw [if_pos h0]; exact .inl ⟨rfl, .inl h0⟩
  · rw [if_neg h0]
    obtain ⟨k, rfl⟩ : ∃ k : Nat, s = k := ⟨s.toNat, by omega⟩
    rw [Int.toNat_natCast]
    by_cases h1 : D k n = false
    · rw [if_pos h1]; exact .inl ⟨rfl, .inr ⟨k, rfl, h1⟩⟩
    · rw [if_neg h1]
      refine .inr ⟨k, rfl, by simpa using h1, ?_⟩
      cases e : (List.range n).find? (fun i => !D i k) with
      | none =>
        rw [List.find?_eq_none] at e
        exact .inr ⟨rfl, fun j hj => by have := e j (List.mem_range.2 hj); simpa using this⟩
      | some i =>
        rw [List.find?_range_eq_some] at e
        obtain ⟨e1, e2, e3⟩ := e
        refine .inl ⟨i, List.mem_range.1 e2, rfl, by simpa using e1, fun j hj => by have := e3 j hj; simpa using this⟩
theorem alias_uniq {n : Nat} {D : Nat → Nat → Bool} {s r r' : Int} (h : AliasP n D s r) (h' : AliasP n D s r') : r = r' := by
  rcases h with ⟨rfl, h1⟩ | ⟨k, rfl, h1, h2⟩
  · rcases h' with ⟨rfl, _⟩ | ⟨k', rfl, h1', _⟩
    · rfl
    · rcases h1 with h1 | ⟨k, e, h1⟩
      · omega
      · have : k' = k := by omega
        subst this; rw [h1] at h1'; cases h1'
  · rcases h' with ⟨rfl, h1'⟩ | ⟨k', e, h1', h2'⟩
    · rcases h1' with h1' | ⟨k', e, h1'⟩
      · omega
      · have : k = k' := by omega
        subst this; rw [h1] at h1'; cases h1'
    · have : k' = k := by omega
      subst this
      rcases h2 with ⟨i, hi, rfl, e1, e2⟩ | ⟨rfl, e2⟩
      · rcases h2' with ⟨i', hi', rfl, e1', e2'⟩ | ⟨rfl, e2'⟩
        · rcases Nat.lt_trichotomy i i' with h | h | h
          · have := e2' i h; rw [e1] at this; cases this
          · rw [h]
          · have := e2 i' h; rw [e1'] at this; cases this
        · have := e2' i hi; rw [e1] at this; cases this
      · rcases h2' with ⟨i', hi', rfl, e1', e2'⟩ | ⟨rfl, e2'⟩
        · have := e2 i' hi'; rw [e1'] at this; cases this
        · rfl
theorem alias_range {m : List Sta} {D : Nat → Nat → Bool} (h : TableD m D) {s : Int} (hs : s < m.length) : aliasF m.length D s = -1 ∨ ∃ i : Nat, aliasF m.length D s = i ∧ i < m.length := by
  rcases alias_means h hs alias_F with ⟨_, e⟩ | ⟨_, i, e, hi, _⟩
  · exact .inl e
  · exact .inr ⟨i, e, hi⟩
theorem nextR_cases {m : List Sta} {D : Nat → Nat → Bool} (h : TableD m D) (hf : Fits m) {s : Nat} (hs : s < m.length) {b : Nat} (hb : b < 256) :
    (nextR m (aliasF m.length D) s b = none ∧ aliasF m.length D (nextS m (s : Nat) b) = -1) ∨ ∃ y : Nat, nextR m (aliasF m.length D) s b = some y ∧ aliasF m.length D (nextS m (s : Nat) b) = y ∧ y < m.length := by
  have hx : nextS m (s : Nat) b < m.length := by
    rcases hf.next s hs b hb with e | ⟨y, hy, e⟩
    · omega
    · omega
  unfold nextR
  rcases alias_range h hx with e | ⟨y, e, hy⟩
  · rw [e]; exact .inl ⟨if_neg (by omega), rfl⟩
  · rw [e]; exact .inr ⟨y, by rw [if_pos (by omega), Int.toNat_natCast], rfl, hy⟩
theorem nextR_lt {m : List Sta} {D : Nat → Nat → Bool} (h : TableD m D) (hf : Fits m) {s b y : Nat} (hs : s < m.length) (hb : b < 256) (e : nextR m (aliasF m.length D) s b = some y) : y < m.length := by
  rcases nextR_cases h hf hs hb with ⟨e1, _⟩ | ⟨z, e1, _, hz⟩
  · rw [e] at e1; cases e1
  · rw [e] at e1; cases e1; exact hz
def fndI (L : List Nat) (y : Nat) : Int := if y ∈ L then (numK id L y : Nat) else -1
theorem find_num {L : List Nat} {y : Nat} {r : Int} (h : FindP (L.map fun x : Nat => (x : Int)) (y : Nat) r) : r = fndI L y := by
  unfold fndI
  rcases h with ⟨rfl, h⟩ | ⟨k, hk, rfl, e, hj⟩
  · rw [if_neg fun hm => h (List.mem_map.2 ⟨y, hm, rfl⟩)]
  · rw [List.length_map] at hk
    rw [List.getElem_map] at e
    have e : L[k] = y := by omega
    have hm : y ∈ L := by rw [← e]; exact List.getElem_mem hk
    rw [if_pos hm]
    congr 1
    obtain ⟨z, hz, hzy⟩ := numK_at (key := id) (L := L) (y := y) (by rw [List.map_id]; exact hm)
    have hzy : z = y := hzy
    subst hzy
    obtain ⟨hn, hz⟩ := List.getElem?_eq_some_iff.1 hz
    rcases Nat.lt_trichotomy k (numK id L z) with h | h | h
    · unfold numK at h
      have := List.not_of_lt_findIdx h
      simp [e] at this
    · rw [h]
    · have := hj _ (by rw [List.length_map]; exact hn) h
      rw [List.getElem_map] at this
      exact absurd (by rw [hz]) this
theorem pushK_id_new {L : List Nat} {y : Nat} (h : y ∉ L) : pushK id L y = L ++ [y] := pushK_new (by rw [List.map_id]; exact h)
theorem pushK_id_old {L : List Nat} {y : Nat} (h : y ∈ L) : pushK id L y = L := pushK_old (by rw [List.map_id]; exact h)
theorem fnd_pushed (L : List Nat) (y : Nat) : fndI (pushK id L y) y = (numK id (pushK id L y) y : Nat) := by
  unfold fndI
  rw [if_pos]
  have := pushK_has id L y
  rw [List.map_id] at this; exact this
theorem plcL_snoc (L : List Nat) (y : Nat) : plcL (L ++ [y]) = plcL L ++ [.int .i64 (y : Nat)] := by unfold plcL; rw [List.map_append]; rfl
structure LS (w w2 : World) (B : Nat) (vl : Value) (L : List Nat) (vo : Value) (vs : List (Nat × Value)) (M : List Sta) : Prop where
  row : w.ownsRow B 3 1 vl L.length (plcL L)
  out : RowsM w B vo vs M
  bl : Below B w2 w
  le : B ≤ w2.heap.size
theorem LS.size {w w2 : World} {B : Nat} {vl vo : Value} {L : List Nat} {vs : List (Nat × Value)} {M : List Sta} (h : LS w w2 B vl L vo vs M) : w2.heap.size ≤ w.heap.size := h.bl.size
theorem LS.below {w w' w2 : World} {B : Nat} {vl vo : Value} {L : List Nat} {vs : List (Nat × Value)} {M : List Sta} (h : LS w w2 B vl L vo vs M) (hb : Below w.heap.size w w') : LS w' w2 B vl L vo vs M :=
  ⟨own_below h.row hb, h.out.below hb, h.bl.trans (hb.mono (Nat.le_trans h.le h.size)), h.le⟩
theorem LS.store {w w2 : World} {B T j : Nat} {f : Nat → Int} {vl vo : Value} {L : List Nat} {vs : List (Nat × Value)} {M : List Sta} (h : LS w w2 B vl L vo vs M) (hT : IBlk w T f) (hB : B ≤ T) (u : Value) : LS (w.setCell ⟨T, j, none⟩ u) w2 B vl L vo vs M := by
  have hk : ∀ k, k ≠ T → (w.setCell ⟨T, j, none⟩ u).heap[k]? = w.heap[k]? := fun k hk => Below.heap_setCell _ _ _ _ hk
  refine ⟨row_same h.row fun k e => hk k fun e2 => ?_, h.out.typed fun g cs t hg ht => (hk g fun e2 => ?_).trans hg, h.bl.setCell (p := ⟨T, j, none⟩) hB u, h.le⟩
  · subst e2
    obtain ⟨c2, x2⟩ := row_block h.row e
    rw [show w.heap[k]? = _ from hT] at x2
    exact absurd (Obj.cells.inj (Option.some.inj x2)).2.1 (by decide)
  · subst e2
    rw [show w.heap[g]? = _ from hT] at hg
    have := (Obj.cells.inj (Option.some.inj hg)).2.1
    subst this
    revert ht; decide
theorem iblk_grown {w w7 w8 : World} {T B n sz : Nat} {e : TypeId} {v : Value} {xs : List Value} {f : Nat → Int} (h : IBlk w T f) (hrow : w.ownsRow B e sz v n xs) (he : e ≠ 49) (h7 : Below w.heap.size w w7) (hg : w7.grownBy w8 v.ownBlock) : IBlk w8 T f := by
  have h1 := h.below h7
  refine (hg.block T h1.lt fun e2 => ?_).trans h1
  obtain ⟨c2, x2⟩ := row_block hrow e2.symm
  rw [show w.heap[T]? = _ from h] at x2
  exact he (Obj.cells.inj (Option.some.inj x2)).2.1.symm
theorem LS.push {w w2 w7 w8 : World} {B y : Nat} {vl vo u : Value} {L : List Nat} {vs : List (Nat × Value)} {M : List Sta} (h : LS w w2 B vl L vo vs M) (h7 : Below w.heap.size w w7) (hg : w7.grownBy w8 vl.ownBlock)
    (h2 : w8.ownsRow B 3 1 u (L.length + 1) (plcL L ++ [.int .i64 (y : Nat)])) : LS w8 w2 B u (L ++ [y]) vo vs M := by
  refine ⟨by rw [plcL_snoc, List.length_append, List.length_singleton]; exact h2, h.out.typed fun g cs t hgc ht => ?_, ?_, h.le⟩
  · have h1 := (h7.block g (lt_of_block hgc)).trans hgc
    refine (hg.block g (lt_of_block h1) fun e => ?_).trans h1
    obtain ⟨c2, x2⟩ := row_block h.row e.symm
    rw [hgc] at x2
    have := (Obj.cells.inj (Option.some.inj x2)).2.1
    subst this
    revert ht; decide
  · exact push3 h.bl h.row (Nat.le_refl _) (Nat.le_trans h.le h.size) h7 hg
theorem LS.outs {w w2 w7 w8 : World} {B : Nat} {vl vo u u' : Value} {L : List Nat} {vs : List (Nat × Value)} {M : List Sta} {s : Sta} (h : LS w w2 B vl L vo vs M) (hu : w.ownsRow B 38 3 u s.arcs.length (flatA s.arcs)) (h7 : Below w.heap.size w w7) (hg : w7.grownBy w8 vo.ownBlock)
    (h2 : w8.ownsRow B 42 2 u' (M.length + 1) (flatM vs ++ [.int .u64 (s.acc : Nat), u])) : LS w8 w2 B vl L u' (vs ++ [(s.acc, u)]) (M ++ [s]) := by
  refine ⟨row_same (own_below h.row h7) fun k e => ?_, h.out.push hu h7 hg h2, push3 h.bl h.out.own (Nat.le_refl _) (Nat.le_trans h.le h.size) h7 hg, h.le⟩
  have hr := own_below h.row h7
  refine hg.block k (hr.lt k e).2 fun e2 => ?_
  obtain ⟨c1, x1⟩ := row_block hr e
  obtain ⟨c2, x2⟩ := row_block (own_below h.out.own h7) e2.symm
  rw [x1] at x2
  exact absurd (Obj.cells.inj (Option.some.inj x2)).2.1 (by decide)
theorem own_first (w : World) (x : Nat) : (w.alloc (.cells #[.int .i64 (x : Nat)] 3)).ownsRow w.heap.size 3 1 (.slice (some ⟨w.heap.size, 0, none⟩) 1 1) 1 (plcL [x]) :=
  ⟨by simp [plcL], .inr ⟨w.heap.size, 1, #[.int .i64 (x : Nat)], rfl, Nat.le_refl _, heap_alloc_new w _, Nat.le_refl _, by decide, rfl, by simp [plcL]⟩⟩
def LeastR (m K : List Sta) : Prop :=
  ((soundS m).length = 0 ∧ K = []) ∨ (soundS m = m ∧ 0 < m.length ∧ ∃ D, TableD m D ∧ ((aliasF m.length D 0 = -1 ∧ K = []) ∨ ∃ t0 j : Nat, aliasF m.length D 0 = (t0 : Nat) ∧ (walkK (nextR m (aliasF m.length D)) id t0 j).length = j ∧ K = leastK (accAt m) (nextR m (aliasF m.length D)) id (walkK (nextR m (aliasF m.length D)) id t0 j)))
theorem least_eq {m K K' : List Sta} (hm : Mays m) (h : LeastP m K) (h' : LeastR m K') : K = K' := by
  rcases h with ⟨h0, rfl⟩ | ⟨hs, h0, U, hU, h⟩
  · rcases h' with ⟨_, rfl⟩ | ⟨hs', h0', _⟩
    · rfl
    · rw [hs'] at h0; omega
  · rcases h' with ⟨h0', _⟩ | ⟨_, _, D, hD, h'⟩
    · rw [hs] at h0'; omega
    · have hf := (sound_len hm (by rw [hs]; exact h0)).2.1
      have hx : ((0 : Int)) < m.length := by omega
      have hd := alias_means hD hx alias_F
      have hu := hU.none hf h0
      rcases h with ⟨hU0, _, rfl⟩ | ⟨hU0, hk, C, i, hC, _, hw, rfl⟩
      · have hdd : DeadS m ((0 : Nat) : Int) := by
          apply Classical.byContradiction
          intro h9
          rw [hu.2 h9] at hU0; cases hU0
        rcases h' with ⟨_, rfl⟩ | ⟨t0, j, e, _⟩
        · rfl
        · rcases hd with ⟨_, e2⟩ | ⟨h9, _⟩
          · omega
          · exact absurd hdd h9
      · have hnd := hu.1 hU0
        rcases h' with ⟨e, rfl⟩ | ⟨t0, j, e, hj, rfl⟩
        · rcases hd with ⟨h9, _⟩ | ⟨_, i, e2, _⟩
          · exact absurd h9 hnd
          · omega
        · exact least_both hU hf h0 hU0 hC hD (fun s hs => alias_F) e hw hj
end Go.Proofs.Ytamgldhnfcikbaa
