/- Texts that a proof rests on: Pairs of places: how a pair is compared; a map from pairs to steps: a look, a new entry. | A walk as it lies; the contract of minim.newWalk. | The contract of minim.visit: a pair is taken up, unless its two are in one group. | How a walk of two machines stands: as it lies, and what it is. -/
import Derived.Test.YtamgldhnfcikbaaK09
import Derived.WideKeyRuns
import Derived.ChangeKeysEq
set_option maxRecDepth 100000
namespace Go.Proofs.Ytamgldhnfcikbaa
open Go.RowKit

def setMap (w : World) (r : Nat) (es : Array MapEntry) (c : Nat) : World := { w with heap := w.heap.setIfInBounds r (.map es c) }
theorem setMap_new (w : World) (r : Nat) (es es' : Array MapEntry) (c c' : Nat) (h : w.heap[r]? = some (.map es c)) : (setMap w r es' c').heap[r]? = some (.map es' c') := by
  have hl := lt_of_block h
  simp [setMap, hl]
def pv (p : Int × Int) : Value := .agg #[.int .i64 p.1, .int .i64 p.2]
def sv (p : Int × Int) (b : Nat) : Value := .agg #[.int .i64 p.1, .int .i64 p.2, .int .u8 b]
theorem part_pv_0 (a b : Int) (w : World) : (part 3 #[.int .i64 a, .int .i64 b] (0 * 1)).run Try.prog w = .ok (.int .i64 a) w := by kernel_rfl
theorem part_pv_1 (a b : Int) (w : World) : (part 3 #[.int .i64 a, .int .i64 b] (1 * 1)).run Try.prog w = .ok (.int .i64 b) w := by kernel_rfl
theorem cells_int : Try.prog.cellsOf 3 = 1 := by kernel_rfl
theorem info_int : ∃ i, Try.prog.info? 3 = some i := info_of_underlying Try.underlying3
theorem eq_pair (a b c d : Int) (w : World) : (Op.equalIn 10000 92 (pv (a, b)) (pv (c, d))).run Try.prog w = .ok (a == c && b == d) w := by
  unfold pv
  obtain ⟨i, hi⟩ := info_int
  rw [show (10000 : Nat) = 9999 + 1 from rfl, run_equalIn_array w 9999 _ _ Try.underlying92 hi]
  have hu : Try.prog.underlying 3 = some (.int .i64) := Try.underlying3
  have ha : (Op.equalIn 9999 3 (.int .i64 a) (.int .i64 c)).run Try.prog w = .ok (a == c) w := run_equalIn_int w 9998 _ _ _ _ _ hu
  have hb : (Op.equalIn 9999 3 (.int .i64 b) (.int .i64 d)).run Try.prog w = .ok (b == d) w := run_equalIn_int w 9998 _ _ _ _ _ hu
  rw [cells_int, show List.range 2 = [0, 1] from rfl]
  simp only [Op.eqItems, Sem.run_bind, part_pv_0, Result.andThen_ok, ha]
  cases a == c
  · simp
  · simp only [Bool.not_true, Bool.false_eq_true, if_false, Sem.run_bind, part_pv_1, hb, Result.andThen_ok, Bool.true_and]
    cases b == d <;> simp
theorem equal_pair (p q : Int × Int) (w : World) : (Op.equal 92 (pv p) (pv q)).run Try.prog w = .ok (decide (p = q)) w := by
  have h : (Op.equal 92 (pv p) (pv q)).run Try.prog w = .ok (p.1 == q.1 && p.2 == q.2) w := eq_pair p.1 p.2 q.1 q.2 w
  rw [h]
  congr 1
  rw [Bool.eq_iff_iff, Bool.and_eq_true, beq_iff_eq, beq_iff_eq, decide_eq_true_eq, Prod.ext_iff]
def PMap (es : List MapEntry) (L : List ((Int × Int) × Value)) : Prop := es.map (fun e => (e.key, e.val)) = L.map (fun x => (pv x.1, x.2))
theorem PMap.push {es : Array MapEntry} {L : List ((Int × Int) × Value)} (h : PMap es.toList L) (p : Int × Int) (v : Value) (c : Nat) : PMap (es.push { key := pv p, val := v, born := c }).toList (L ++ [(p, v)]) := by
  unfold PMap at *
  simp [h]
theorem find_pair_none (p : Int × Int) (w : World) : ∀ (es : List MapEntry) (L : List ((Int × Int) × Value)) (i : Nat), PMap es L → (∀ x ∈ L, x.1 ≠ p) → (Instr.findAsking 92 (pv p) es i).run Try.prog w = .ok none w
  | [], L, i, h, _ => rfl
  | e :: es, L, i, h, hn => by
    rcases L with _ | ⟨x, L⟩
    · simp [PMap] at h
    · simp only [PMap, List.map_cons, List.cons.injEq, Prod.mk.injEq] at h
      obtain ⟨⟨hk, hv⟩, ht⟩ := h
      have he : (Op.equal 92 (pv p) e.key).run Try.prog w = .ok false w := by
        rw [hk, equal_pair, decide_eq_false (fun e => hn x (by simp) e.symm)]
      have ih := find_pair_none p w es L (i + 1) ht (fun y hy => hn y (List.mem_cons_of_mem _ hy))
      simp [Instr.findAsking, he, ih]
theorem find_pair_some (p : Int × Int) (v : Value) (w : World) : ∀ (es : List MapEntry) (L : List ((Int × Int) × Value)) (i : Nat), PMap es L → (p, v) ∈ L → (L.map (·.1)).Nodup → ∃ n, (Instr.findAsking 92 (pv p) es i).run Try.prog w = .ok (some (n, v)) w
  | [], L, i, h, hm, _ => by
    have : L = [] := List.eq_nil_of_map_eq_nil h.symm
    subst this; cases hm
  | e :: es, L, i, h, hm, hd => by
    rcases L with _ | ⟨x, L⟩
    · cases hm
    · simp only [PMap, List.map_cons, List.cons.injEq, Prod.mk.injEq] at h
      obtain ⟨⟨hk, hv⟩, ht⟩ := h
      rw [List.map_cons, List.nodup_cons] at hd
      by_cases hx : p = x.1
      · have he : (Op.equal 92 (pv p) e.key).run Try.prog w = .ok true w := by
          rw [hk, equal_pair, decide_eq_true hx]
        have hxv : x.2 = v := by
          rcases List.mem_cons.1 hm with h1 | h1
          · rw [← h1]
          · exact absurd (List.mem_map.2 ⟨_, h1, hx⟩) hd.1
        exact ⟨i, by simp [Instr.findAsking, he, hv, hxv]⟩
      · have he : (Op.equal 92 (pv p) e.key).run Try.prog w = .ok false w := by
          rw [hk, equal_pair, decide_eq_false hx]
        obtain ⟨n, hn⟩ := find_pair_some p v w es L (i + 1) ht (by
          rcases List.mem_cons.1 hm with h1 | h1
          · exact absurd (by rw [← h1]) hx
          · exact h1) hd.2
        exact ⟨n, by simp [Instr.findAsking, he, hn]⟩
theorem check_pair (em : Bool) (p : Int × Int) (w : World) : (Instr.checkKey em 10000 92 (pv p)).run Try.prog w = .ok () w := by kernel_rfl
theorem findKey_pair (p : Int × Int) (es : List MapEntry) (w : World) : (Instr.findKey 92 (pv p) es).run Try.prog w = (Instr.findAsking 92 (pv p) es).run Try.prog w :=
  run_findKey_eq w (by kernel_rfl) _ _
def PM (w : World) (g : Nat) (L : List ((Int × Int) × Value)) : Prop := ∃ es c, w.heap[g]? = some (.map es c) ∧ PMap es.toList L
theorem look_pair {w : World} {g : Nat} {L : List ((Int × Int) × Value)} (h : PM w g L) (hd : (L.map (·.1)).Nodup) {p : Int × Int} {v : Value} (hm : (p, v) ∈ L) : (Instr.lookup 84 (.map (some g)) (pv p) false).run Try.prog w = .ok v w := by
  obtain ⟨es, c, hb, ht⟩ := h
  obtain ⟨n, hn⟩ := find_pair_some p v w es.toList L 0 ht hm hd
  have hc := check_pair es.isEmpty p w
  simp [Instr.lookup, run_underlying Try.underlying84, MapKept.run_getObj_map hb, hc, findKey_pair, hn, Result.andThen]
theorem put_pair {w : World} {g : Nat} {L : List ((Int × Int) × Value)} (h : PM w g L) {p : Int × Int} (hn : ∀ x ∈ L, x.1 ≠ p) (v : Value) :
    ∃ es c, (Instr.mapUpdate 84 (.map (some g)) (pv p) v).run Try.prog w = .ok () (setMap w g es c) ∧ PM (setMap w g es c) g (L ++ [(p, v)]) := by
  obtain ⟨es, c, hb, ht⟩ := h
  have hf := find_pair_none p w es.toList L 0 ht hn
  refine ⟨es.push { key := pv p, val := v, born := c }, c + 1, ?_, _, _, setMap_new _ _ _ _ _ _ hb, ht.push p v c⟩
  simp [Instr.mapUpdate, run_underlying Try.underlying84, MapKept.run_getObj_map hb, check_pair, findKey_pair, hf, MapKept.run_setObj_map _ hb, Result.andThen, setMap]
end Go.Proofs.Ytamgldhnfcikbaa
set_option maxRecDepth 100000
namespace Go.Proofs.Ytamgldhnfcikbaa
open List (getElem_toArray getElem_cons_succ getElem_cons_zero setIfInBounds_toArray set_cons_zero set_cons_succ)
open Go.RowKit

theorem goes_two {P : Program} {ops : Array Oper} {Q : Exit → Act → World → Prop} {md : Region.Mode} {S : World → Prop} {z n i j : Nat} {l : Array Bool} {a : Act} {w : World} {o o' : Oper} (hr : Region.ready md ops l = [i, j]) (ho : ops[i]? = some o) (ho' : ops[j]? = some o')
    (h : ∀ K' : Act → World → Prop, Shut (∀ a w, (i ≠ z → S w) → ((i ≠ z → S w) → Goes P md ops Q S z n (l.setIfInBounds i true) a w) → K' a w) → if Region.wanted o (yielded ops a.tmps) = true then Oper.wp P o a w K' Q else K' (a.put o.dst undef) w)
    (h' : ∀ K' : Act → World → Prop, Shut (∀ a w, (j ≠ z → S w) → ((j ≠ z → S w) → Goes P md ops Q S z n (l.setIfInBounds j true) a w) → K' a w) → if Region.wanted o' (yielded ops a.tmps) = true then Oper.wp P o' a w K' Q else K' (a.put o'.dst undef) w) : Goes P md ops Q S z (n + 1) l a w := by
  refine ⟨fun h0 => (by rw [hr] at h0; cases h0), fun k hk => ?_⟩
  rw [hr, List.mem_cons, List.mem_singleton] at hk
  rcases hk with rfl | rfl
  · exact wpOp_step ho fun K' hK => h K' fun a w h1 h2 => hK a w ⟨h1, h2 h1⟩
  · exact wpOp_step ho' fun K' hK => h' K' fun a w h1 h2 => hK a w ⟨h1, h2 h1⟩
structure Oth (w w' : World) (S : Nat → Prop) : Prop where
  os : w'.os = w.os
  tape : w'.tape = w.tape
  output : w'.output = w.output
  size : w.heap.size ≤ w'.heap.size
  block : ∀ k, k < w.heap.size → ¬ S k → w'.heap[k]? = w.heap[k]?
theorem Oth.refl (w : World) (S : Nat → Prop) : Oth w w S := ⟨rfl, rfl, rfl, Nat.le_refl _, fun _ _ _ => rfl⟩
theorem Oth.trans {a b c : World} {S T : Nat → Prop} (h : Oth a b S) (k : Oth b c T) (hs : ∀ i, i < a.heap.size → ¬ S i → ¬ T i) : Oth a c S :=
  ⟨k.os.trans h.os, k.tape.trans h.tape, k.output.trans h.output, Nat.le_trans h.size k.size, fun i hi hn => (k.block i (Nat.lt_of_lt_of_le hi h.size) (hs i hi hn)).trans (h.block i hi hn)⟩
theorem Oth.of_below {w w' : World} {S : Nat → Prop} (h : Below w.heap.size w w') : Oth w w' S := ⟨h.os, h.tape, h.output, h.size, fun k hk _ => h.block k hk⟩
theorem Oth.below {w w' : World} {S : Nat → Prop} {N : Nat} (h : Oth w w' S) (hN : N ≤ w.heap.size) (hs : ∀ k, k < N → ¬ S k) : Below N w w' := ⟨h.os, h.tape, h.output, h.size, fun k hk => h.block k (by omega) (hs k hk)⟩
theorem Oth.of_gb {w w' : World} {S : Nat → Prop} {row : Option Nat} (h : w.grownBy w' row) (hs : ∀ k, row = some k → S k) : Oth w w' S := ⟨h.os, h.tape, h.output, h.size, fun k hk hn => h.block k hk fun e => hn (hs k e.symm)⟩
theorem Oth.of_set (w : World) {S : Nat → Prop} (a : Addr) (v : Value) (hs : S a.block) : Oth w (w.setCell a v) S :=
  ⟨rfl, rfl, rfl, by simp, fun k hk hn => Below.heap_setCell _ _ _ _ (show k ≠ a.block from fun e => hn (e ▸ hs))⟩
theorem Oth.of_map (w : World) {S : Nat → Prop} (r : Nat) (es : Array MapEntry) (c : Nat) (hs : S r) : Oth w (setMap w r es c) S :=
  ⟨rfl, rfl, rfl, by simp [setMap], fun k hk hn => by
    have : r ≠ k := fun e => hn (e ▸ hs)
    simp [setMap, this]⟩
theorem Oth.cell {w w' : World} {S : Nat → Prop} (h : Oth w w' S) {a : Addr} {v : Value} (hc : w.cell? a = some v) (hs : ¬ S a.block) : w'.cell? a = some v := by
  rw [World.cell?_of_block (h.block _ (cell_lt hc) hs)]; exact hc
def flatP (ps : List (Int × Int)) : List Value := ps.flatMap fun p => [.int .i64 p.1, .int .i64 p.2]
theorem flatP_snoc (ps : List (Int × Int)) (p : Int × Int) : flatP (ps ++ [p]) = flatP ps ++ [.int .i64 p.1, .int .i64 p.2] := by simp [flatP]
theorem flatP_at (ps : List (Int × Int)) : ∀ i (h : i < ps.length) j, j < 2 → (flatP ps)[i * 2 + j]? = [Value.int .i64 ps[i].1, .int .i64 ps[i].2][j]? := by
  induction ps with
  | nil => intro i h; simp at h
  | cons p ps ih =>
    intro i h j hj
    rw [show flatP (p :: ps) = [.int .i64 p.1, .int .i64 p.2] ++ flatP ps from rfl]
    cases i with
    | zero =>
      rw [Nat.zero_mul, Nat.zero_add, List.getElem?_append_left (by simpa using hj)]; rfl
    | succ i =>
      rw [show (i + 1) * 2 + j = 2 + (i * 2 + j) by omega, List.getElem?_append_right (by simp)]
      simpa using ih i (by simpa using h) j hj
structure WS (w : World) (bw bs g cap nn bm B : Nat) (va vb vo : Value) (ps : List (Int × Int)) (L : List ((Int × Int) × Value)) (A : Nat → Nat) : Prop where
  sa : SA w bs g cap nn A
  blk : w.heap[bw]? = some (.cells #[va, vb, vo, .map (some bm), .pointer (some ⟨bs, 0, none⟩)] 89 (0, 0))
  ord : w.ownsRow B 92 2 vo ps.length (flatP ps)
  map : PM w bm L
  far : bw ≠ bs ∧ bw ≠ g ∧ bw ≠ bm ∧ bs ≠ bm ∧ g ≠ bm
  old : bw < B ∧ bs < B ∧ g < B ∧ bm < B
  big : B ≤ w.heap.size
theorem pm_other {w w' : World} {b : Nat} {L : List ((Int × Int) × Value)} (h : PM w b L) (e : w'.heap[b]? = w.heap[b]?) : PM w' b L := by
  obtain ⟨es, c, h1, h2⟩ := h
  exact ⟨es, c, e.trans h1, h2⟩
theorem pm_lt {w : World} {b : Nat} {L : List ((Int × Int) × Value)} (h : PM w b L) : b < w.heap.size := by
  obtain ⟨es, c, h1, h2⟩ := h
  exact lt_of_block h1
theorem sa_lt {w : World} {bs g cap n : Nat} {A : Nat → Nat} (h : SA w bs g cap n A) : bs < w.heap.size ∧ g < w.heap.size := by
  refine ⟨lt_of_block h.2.1, ?_⟩
  exact (h.2.2.lt g rfl).2
theorem SA.alloc {w : World} {bs g cap n : Nat} {A : Nat → Nat} (h : SA w bs g cap n A) (o : Obj) : SA (w.alloc o) bs g cap n A :=
  ⟨h.1, (heap_alloc_old w o (lt_of_block h.2.1)).trans h.2.1, h.2.2.alloc o⟩
theorem ws_new {w : World} {bs g cap nn bm : Nat} {A : Nat → Nat} {va vb : Value} (hsa : SA w bs g cap nn A) (hpm : PM w bm []) (hne : bs ≠ bm ∧ g ≠ bm) :
    WS (w.alloc (.cells #[va, vb, .slice none 0 0, .map (some bm), .pointer (some ⟨bs, 0, none⟩)] 89)) w.heap.size bs g cap nn bm (w.heap.size + 1) va vb (.slice none 0 0) [] [] A := by
  have h1 := sa_lt hsa
  have h2 := pm_lt hpm
  exact ⟨hsa.alloc _, heap_alloc_new w _, World.ownsRow_nil _ _ _ _, pm_other hpm (heap_alloc_old w _ h2), by omega, by omega, by simp⟩
set_option linter.unusedSimpArgs false in
set_option maxHeartbeats 4000000 in
theorem newWalk_any (la lb nn : Nat) (a0 a1 : Option Addr) (c0 c1 : Nat) (w : World) (hnn : nn = la + lb + 1) (hn : nn < 1000000) :
    Calls Try.prog 37 #[.agg #[.slice a0 la c0, .slice a1 lb c1]] w fun e w' => ∃ bw bs g cap bm, e = .returned (.pointer (some ⟨bw, 0, none⟩)) ∧ w.heap.size ≤ bw ∧ w.heap.size ≤ bs ∧ w.heap.size ≤ g ∧ w.heap.size ≤ bm ∧ Hid (WS w' bw bs g cap nn bm w'.heap.size (.slice a0 la c0) (.slice a1 lb c1) (.slice none 0 0) [] [] fun i => i) ∧ Hid (Below w.heap.size w w') := by
  have mixed : Try.prog.follows .mixedOrders = true := by kernel_rfl
  obtain ⟨N, hN⟩ : ∃ N, w.heap.size = N := ⟨_, rfl⟩
  rw [hN]
  go_enter Try.func37, Try.ntmps37
  go_upto_region 1 with fail
  obtain ⟨w1, hw1⟩ : ∃ w1, w.alloc (.cells #[.slice a0 la c0, .slice a1 lb c1] 58) = w1 := ⟨_, rfl⟩
  have hb1 : Below w.heap.size w w1 := by rw [← hw1]; exact new_one w _
  have hs1 : w1.heap.size = N + 1 := by rw [← hw1]; simp [hN]
  have hx1 : w1.heap[N]? = some (.cells #[.slice a0 la c0, .slice a1 lb c1] 58 (0, 0)) := by rw [← hw1, ← hN]; exact heap_alloc_new w _
  rw [hw1]
  have f0 : w1.drew.cell? ⟨N, 0, none⟩ = some (.slice a0 la c0) := (cell_of_row w1 N 0 _ _ _ hx1).trans rfl
  have f1 : w1.drew.cell? ⟨N, 1, none⟩ = some (.slice a1 lb c1) := (cell_of_row w1 N 1 _ _ _ hx1).trans rfl
  clear hw1 hx1
  have hmm := run_makeMap (P := Try.prog) 84
  have q1 : IntKind.i64.wrap ((la : Int) + lb) = (la : Int) + lb := by rw [IntKind.wrap_i64]; omega
  have q2 : IntKind.i64.wrap ((la : Int) + lb + 1) = (la : Int) + lb + 1 := by rw [IntKind.wrap_i64]; omega
  have HNS := Lib.hid (fun w0 => newSames_any nn w0 (by omega) hn)
  rw [show (nn : Int) = (la : Int) + lb + 1 by omega] at HNS
  refine region_goes 114 14 rfl (fun W => W.cell? ⟨N, 0, none⟩ = some (.slice a0 la c0) ∧ W.cell? ⟨N, 1, none⟩ = some (.slice a1 lb c1)) mixed ⟨f0, f1⟩ (fun hHeld => ?_)
  clear f0 f1
  refine goes_take0 (i := 0) (v := ?hv1) rfl (by kernel_rfl) (by kernel_rfl) (by kernel_rfl) rfl (fun _ _ _ h => h) (Or.inl ⟨by rfl, ?hy1⟩) (by assumption) ?hr1
  case hy1 => (intro W9 hW9; obtain ⟨k0, k1⟩ := hW9; first | (go_simp; done) | (go_simp; with_reducible rfl))
  simp only [Act.put, getElem_toArray, getElem_cons_succ, getElem_cons_zero, setIfInBounds_toArray, set_cons_zero, set_cons_succ]
  refine goes_take0 (i := 2) (v := ?hv2) rfl (by kernel_rfl) (by kernel_rfl) (by kernel_rfl) rfl (fun _ _ _ h => h) (Or.inl ⟨by rfl, ?hy2⟩) (by assumption) ?hr2
  case hy2 => (intro W9 hW9; obtain ⟨k0, k1⟩ := hW9; first | (go_simp; done) | (go_simp; with_reducible rfl))
  simp only [Act.put, getElem_toArray, getElem_cons_succ, getElem_cons_zero, setIfInBounds_toArray, set_cons_zero, set_cons_succ]
  refine goes_take0 (i := 3) (v := ?hv3) rfl (by kernel_rfl) (by kernel_rfl) (by kernel_rfl) rfl (fun _ _ _ h => h) (Or.inl ⟨by rfl, ?hy3⟩) (by assumption) ?hr3
  case hy3 => (intro W9 hW9; obtain ⟨k0, k1⟩ := hW9; first | (go_simp; done) | (go_simp; with_reducible rfl))
  simp only [Act.put, getElem_toArray, getElem_cons_succ, getElem_cons_zero, setIfInBounds_toArray, set_cons_zero, set_cons_succ]
  refine goes_take0 (i := 4) (v := ?hv4) rfl (by kernel_rfl) (by kernel_rfl) (by kernel_rfl) rfl (fun _ _ _ h => h) (Or.inl ⟨by rfl, ?hy4⟩) (by assumption) ?hr4
  case hy4 => (intro W9 hW9; obtain ⟨k0, k1⟩ := hW9; first | (go_simp; done) | (go_simp; with_reducible rfl))
  simp only [Act.put, getElem_toArray, getElem_cons_succ, getElem_cons_zero, setIfInBounds_toArray, set_cons_zero, set_cons_succ]
  refine goes_take0 (i := 5) (v := ?hv5) rfl (by kernel_rfl) (by kernel_rfl) (by kernel_rfl) rfl (fun _ _ _ h => h) (Or.inl ⟨by rfl, ?hy5⟩) (by assumption) ?hr5
  case hy5 => (intro W9 hW9; obtain ⟨k0, k1⟩ := hW9; first | (go_simp; done) | (go_simp; with_reducible rfl))
  simp only [Act.put, getElem_toArray, getElem_cons_succ, getElem_cons_zero, setIfInBounds_toArray, set_cons_zero, set_cons_succ]
  refine goes_take0 (i := 6) (v := ?hv6) rfl (by kernel_rfl) (by kernel_rfl) (by kernel_rfl) rfl (fun _ _ _ h => h) (Or.inl ⟨by rfl, ?hy6⟩) (by assumption) ?hr6
  case hy6 => (intro W9 hW9; obtain ⟨k0, k1⟩ := hW9; first | (go_simp; done) | (go_simp; with_reducible rfl))
  simp only [Act.put, getElem_toArray, getElem_cons_succ, getElem_cons_zero, setIfInBounds_toArray, set_cons_zero, set_cons_succ]
  refine goes_take0 (i := 7) (v := ?hv7) rfl (by kernel_rfl) (by kernel_rfl) (by kernel_rfl) rfl (fun _ _ _ h => h) (Or.inl ⟨by rfl, ?hy7⟩) (by assumption) ?hr7
  case hy7 => (intro W9 hW9; obtain ⟨k0, k1⟩ := hW9; first | (go_simp; done) | (go_simp; with_reducible rfl))
  simp only [Act.put, getElem_toArray, getElem_cons_succ, getElem_cons_zero, setIfInBounds_toArray, set_cons_zero, set_cons_succ]
  refine goes_take0 (i := 8) (v := ?hv8) rfl (by kernel_rfl) (by kernel_rfl) (by kernel_rfl) rfl (fun _ _ _ h => h) (Or.inl ⟨by rfl, ?hy8⟩) (by assumption) ?hr8
  case hy8 => (intro W9 hW9; obtain ⟨k0, k1⟩ := hW9; first | (go_simp; done) | (go_simp; with_reducible rfl))
  simp only [Act.put, getElem_toArray, getElem_cons_succ, getElem_cons_zero, setIfInBounds_toArray, set_cons_zero, set_cons_succ]
  refine goes_take0 (i := 9) (v := ?hv9) rfl (by kernel_rfl) (by kernel_rfl) (by kernel_rfl) rfl (fun _ _ _ h => h) (Or.inl ⟨by rfl, ?hy9⟩) (by assumption) ?hr9
  case hy9 => (intro W9 hW9; obtain ⟨k0, k1⟩ := hW9; first | (go_simp; done) | (go_simp; with_reducible rfl))
  simp only [Act.put, getElem_toArray, getElem_cons_succ, getElem_cons_zero, setIfInBounds_toArray, set_cons_zero, set_cons_succ]
  refine goes_two (i := 1) (j := 10) (by kernel_rfl) rfl rfl (fun K9 hK9 => ?_) (fun K9 hK9 => ?_)
  · -- the map first
    go_simp
    obtain ⟨k0, k1⟩ := hHeld
    have hbm := new_one w1.drew (.map #[] 0)
    refine hK9.out _ _ (fun _ => ⟨cell_below hbm k0, cell_below hbm k1⟩) (fun hHeld => ?_)
    have hHeld := hHeld (by decide)
    clear hK9 K9 k0 k1
    refine goes_one (i := 10) (by kernel_rfl) rfl (fun K9 hK9 => ?_)
    go_simp
    with_reducible refine (HNS.out _).mono ?_
    rintro e w5 ⟨bs, g, cap, rfl, hbs, hg, hsa, hb5⟩
    obtain ⟨k0, k1⟩ := hHeld
    refine hK9.out _ _ (fun _ => ⟨cell_below hb5.out k0, cell_below hb5.out k1⟩) (fun hHeld => ?_)
    have hHeld := hHeld (by decide)
    clear hK9 K9 k0 k1
    have hp0 : PM (w1.drew.alloc (.map #[] 0)) (N + 1) [] := ⟨#[], 0, (by have := heap_alloc_new w1.drew (.map #[] 0); rw [show w1.drew.heap.size = N + 1 from hs1] at this; exact this), rfl⟩
    have hpm := pm_other (w' := w5) hp0 (hb5.out.block _ (by simp [hs1]))
    have HW := Lib.hid (ws_new (va := .slice a0 la c0) (vb := .slice a1 lb c1) hsa.out hpm (by simp [hs1] at hbs hg; omega))
    have h5 : Below N w w5 := ((hb1.mono (by omega)).trans ((Below.refl w1.heap.size w1).drew.mono (by omega))).trans (((new_one w1.drew (.map #[] 0)).mono (by show N ≤ w1.heap.size; omega)).trans (hb5.out.mono (by simp [hs1]; omega)))
    have hN5 := h5.size
    simp [hs1] at hbs hg
    refine goes_take0 (i := 11) (v := ?hv10) rfl (by kernel_rfl) (by kernel_rfl) (by kernel_rfl) rfl (fun _ _ _ h => h) (Or.inl ⟨by rfl, ?hy10⟩) (by assumption) ?hr10
    case hy10 => (intro W9 hW9; obtain ⟨k0, k1⟩ := hW9; first | (go_simp; done) | (go_simp; with_reducible rfl))
    simp only [Act.put, getElem_toArray, getElem_cons_succ, getElem_cons_zero, setIfInBounds_toArray, set_cons_zero, set_cons_succ]
    refine goes_one (i := 12) (by kernel_rfl) rfl (fun K9 hK9 => ?_)
    go_simp
    obtain ⟨k0, k1⟩ := hHeld
    have hbx := new_one w5 (.cells #[.slice a0 la c0, .slice a1 lb c1, .slice none 0 0, .map (some (N + 1)), .pointer (some ⟨bs, 0, none⟩)] 89)
    refine hK9.out _ _ (fun _ => ⟨cell_below hbx k0, cell_below hbx k1⟩) (fun hHeld => ?_)
    have hHeld := hHeld (by decide)
    clear hK9 K9 k0 k1
    refine goes_take0 (i := 13) (v := ?hv11) rfl (by kernel_rfl) (by kernel_rfl) (by kernel_rfl) rfl (fun _ _ _ h => h) (Or.inl ⟨by rfl, ?hy11⟩) (by assumption) ?hr11
    case hy11 => (intro W9 hW9; obtain ⟨k0, k1⟩ := hW9; first | (go_simp; done) | (go_simp; with_reducible rfl))
    simp only [Act.put, getElem_toArray, getElem_cons_succ, getElem_cons_zero, setIfInBounds_toArray, set_cons_zero, set_cons_succ]
    refine goes_done (by kernel_rfl) ?_ _
    go_wp2
    exact bodyPost_ret (v := .pointer (some ⟨w5.heap.size, 0, none⟩)) (by simp [results, Try.results37, go_sem]) rfl ⟨_, bs, g, cap, N + 1, rfl, by omega, by omega, by omega, by omega, by rw [show (w5.alloc (.cells #[.slice a0 la c0, .slice a1 lb c1, .slice none 0 0, .map (some (N + 1)), .pointer (some ⟨bs, 0, none⟩)] 89)).heap.size = w5.heap.size + 1 by simp]; exact HW, Lib.hid (h5.trans ((new_one w5 _).mono (by omega)))⟩
  · -- the groups first
    go_simp
    with_reducible refine (HNS.out _).mono ?_
    rintro e w5 ⟨bs, g, cap, rfl, hbs, hg, hsa, hb5⟩
    obtain ⟨k0, k1⟩ := hHeld
    refine hK9.out _ _ (fun _ => ⟨cell_below hb5.out k0, cell_below hb5.out k1⟩) (fun hHeld => ?_)
    have hHeld := hHeld (by decide)
    clear hK9 K9 k0 k1
    have hsl := sa_lt hsa.out
    refine goes_one (i := 1) (by kernel_rfl) rfl (fun K9 hK9 => ?_)
    go_simp
    obtain ⟨k0, k1⟩ := hHeld
    have hbm := new_one w5 (.map #[] 0)
    refine hK9.out _ _ (fun _ => ⟨cell_below hbm k0, cell_below hbm k1⟩) (fun hHeld => ?_)
    have hHeld := hHeld (by decide)
    clear hK9 K9 k0 k1
    have hpm : PM (w5.alloc (.map #[] 0)) w5.heap.size [] := ⟨#[], 0, heap_alloc_new w5 _, rfl⟩
    have HW := Lib.hid (ws_new (va := .slice a0 la c0) (vb := .slice a1 lb c1) (hsa.out.alloc (.map #[] 0)) hpm (by omega))
    have h5 : Below N w w5 := ((hb1.mono (by omega)).trans ((Below.refl w1.heap.size w1).drew.mono (by omega))).trans (hb5.out.mono (show N ≤ w1.drew.heap.size by show N ≤ w1.heap.size; omega))
    have hN5 := h5.size
    have hs6 : (w5.alloc (.map #[] 0)).heap.size = w5.heap.size + 1 := by simp
    obtain ⟨w6, hw6⟩ : ∃ w6, w5.alloc (.map #[] 0) = w6 := ⟨_, rfl⟩
    have h6 : Below N w w6 := by rw [← hw6]; exact h5.trans ((new_one w5 _).mono (by omega))
    rw [hw6] at HW hs6 hpm
    rw [show w1.drew.heap.size = N + 1 from hs1] at hbs hg
    try rw [hw6]
    rw [hw6] at hHeld
    refine goes_take0 (i := 11) (v := ?hv12) rfl (by kernel_rfl) (by kernel_rfl) (by kernel_rfl) rfl (fun _ _ _ h => h) (Or.inl ⟨by rfl, ?hy12⟩) (by assumption) ?hr12
    case hy12 => (intro W9 hW9; obtain ⟨k0, k1⟩ := hW9; first | (go_simp; done) | (go_simp; with_reducible rfl))
    simp only [Act.put, getElem_toArray, getElem_cons_succ, getElem_cons_zero, setIfInBounds_toArray, set_cons_zero, set_cons_succ]
    refine goes_one (i := 12) (by kernel_rfl) rfl (fun K9 hK9 => ?_)
    go_simp
    obtain ⟨k0, k1⟩ := hHeld
    have hbx := new_one w6 (.cells #[.slice a0 la c0, .slice a1 lb c1, .slice none 0 0, .map (some w5.heap.size), .pointer (some ⟨bs, 0, none⟩)] 89)
    refine hK9.out _ _ (fun _ => ⟨cell_below hbx k0, cell_below hbx k1⟩) (fun hHeld => ?_)
    have hHeld := hHeld (by decide)
    clear hK9 K9 k0 k1
    refine goes_take0 (i := 13) (v := ?hv13) rfl (by kernel_rfl) (by kernel_rfl) (by kernel_rfl) rfl (fun _ _ _ h => h) (Or.inl ⟨by rfl, ?hy13⟩) (by assumption) ?hr13
    case hy13 => (intro W9 hW9; obtain ⟨k0, k1⟩ := hW9; first | (go_simp; done) | (go_simp; with_reducible rfl))
    simp only [Act.put, getElem_toArray, getElem_cons_succ, getElem_cons_zero, setIfInBounds_toArray, set_cons_zero, set_cons_succ]
    refine goes_done (by kernel_rfl) ?_ _
    go_wp2
    exact bodyPost_ret (v := .pointer (some ⟨w6.heap.size, 0, none⟩)) (by simp [results, Try.results37, go_sem]) rfl ⟨_, bs, g, cap, w5.heap.size, rfl, by omega, by omega, by omega, by omega, by rw [show (w6.alloc (.cells #[.slice a0 la c0, .slice a1 lb c1, .slice none 0 0, .map (some w5.heap.size), .pointer (some ⟨bs, 0, none⟩)] 89)).heap.size = w6.heap.size + 1 by simp]; exact HW, Lib.hid (h6.trans ((new_one w6 _).mono (by omega)))⟩
end Go.Proofs.Ytamgldhnfcikbaa
set_option maxRecDepth 100000
namespace Go.Proofs.Ytamgldhnfcikbaa
open List (getElem_toArray getElem_cons_succ getElem_cons_zero setIfInBounds_toArray set_cons_zero set_cons_succ)
open Go.RowKit

theorem row_same {w w' : World} {B sz n : Nat} {e : TypeId} {v : Value} {xs : List Value} (h : w.ownsRow B e sz v n xs) (hb : ∀ k, v.ownBlock = some k → w'.heap[k]? = w.heap[k]?) : w'.ownsRow B e sz v n xs := by
  refine ⟨h.1, ?_⟩
  rcases h.2 with h2 | ⟨g, cap, cur, rfl, h3, h4, h5⟩
  · exact .inl h2
  · exact .inr ⟨g, cap, cur, rfl, h3, (hb g rfl).trans h4, h5⟩
theorem sa_keep {w w' : World} {bs g cap n : Nat} {A : Nat → Nat} (h : SA w bs g cap n A) (h1 : w'.heap[bs]? = w.heap[bs]?) (h2 : w'.heap[g]? = w.heap[g]?) : SA w' bs g cap n A :=
  ⟨h.1, h1.trans h.2.1, row_same h.2.2 fun k hk => by cases hk; exact h2⟩
def Own (bw g bm : Nat) (vo : Value) (k : Nat) : Prop := k = bw ∨ k = g ∨ k = bm ∨ vo.ownBlock = some k
theorem WS.keep {w w' : World} {bw bs g cap nn bm B : Nat} {va vb vo : Value} {ps : List (Int × Int)} {L : List ((Int × Int) × Value)} {A : Nat → Nat} (h : WS w bw bs g cap nn bm B va vb vo ps L A)
    (hs : w.heap.size ≤ w'.heap.size) (hk : ∀ k, k < w.heap.size → (k = bs ∨ Own bw g bm vo k) → w'.heap[k]? = w.heap[k]?) : WS w' bw bs g cap nn bm B va vb vo ps L A := by
  have h1 := sa_lt h.sa
  have h2 := pm_lt h.map
  have h3 := lt_of_block h.blk
  exact ⟨sa_keep h.sa (hk _ h1.1 (.inl rfl)) (hk _ h1.2 (.inr (.inr (.inl rfl)))), (hk _ h3 (.inr (.inl rfl))).trans h.blk,
    row_same h.ord fun k e => hk k (h.ord.lt k e).2 (.inr (.inr (.inr (.inr e)))), pm_other h.map (hk _ h2 (.inr (.inr (.inr (.inl rfl))))), h.far, h.old, Nat.le_trans h.big hs⟩
theorem WS.below {w w' : World} {bw bs g cap nn bm B : Nat} {va vb vo : Value} {ps : List (Int × Int)} {L : List ((Int × Int) × Value)} {A : Nat → Nat} (h : WS w bw bs g cap nn bm B va vb vo ps L A)
    (hb : Below w.heap.size w w') : WS w' bw bs g cap nn bm B va vb vo ps L A := h.keep hb.size fun k hk _ => hb.block k hk
theorem WS.joined {w w' : World} {bw bs g cap nn bm B : Nat} {va vb vo : Value} {ps : List (Int × Int)} {L : List ((Int × Int) × Value)} {A A' : Nat → Nat} (h : WS w bw bs g cap nn bm B va vb vo ps L A)
    (hg : w.grownBy w' (some g)) (hsa : SA w' bs g cap nn A') : WS w' bw bs g cap nn bm B va vb vo ps L A' := by
  have h2 := pm_lt h.map
  have h3 := lt_of_block h.blk
  have h4 := h.far
  have h5 := h.old
  refine ⟨hsa, (hg.block _ h3 (by simp; omega)).trans h.blk, row_same h.ord fun k e => hg.block k (h.ord.lt k e).2 ?_, pm_other h.map (hg.block _ h2 (by simp; omega)), h.far, h.old, Nat.le_trans h.big hg.size⟩
  have := (h.ord.lt k e).1
  simp; omega
theorem WS.pushed {w w' : World} {bw bs g cap nn bm B : Nat} {va vb vo vo' : Value} {ps : List (Int × Int)} {p : Int × Int} {L : List ((Int × Int) × Value)} {A : Nat → Nat} (h : WS w bw bs g cap nn bm B va vb vo ps L A)
    (hg : w.grownBy w' vo.ownBlock) (hr : w'.ownsRow B 92 2 vo' (ps.length + 1) (flatP ps ++ [.int .i64 p.1, .int .i64 p.2])) (hv : vo'.ownBlock = vo.ownBlock ∨ ∃ q, vo'.ownBlock = some q ∧ w.heap.size ≤ q) :
    WS (w'.setCell ⟨bw, 2, none⟩ vo') bw bs g cap nn bm B va vb vo' (ps ++ [p]) L A := by
  have h1 := sa_lt h.sa
  have h2 := pm_lt h.map
  have h3 := lt_of_block h.blk
  have h4 := h.far
  have h5 := h.old
  have hv2 : ∀ k, vo'.ownBlock = some k → B ≤ k := fun k hk => by
    rcases hv with hv | ⟨q, hv, hq⟩
    · rw [hv] at hk; exact (h.ord.lt k hk).1
    · rw [hv] at hk; cases hk; have := h.big; omega
  have key : ∀ k, k < w.heap.size → k < B → k ≠ bw → (w'.setCell ⟨bw, 2, none⟩ vo').heap[k]? = w.heap[k]? := fun k hk hB hne => by
    rw [Below.heap_setCell _ _ _ _ (show k ≠ bw from hne), hg.block k hk fun e => by have := (h.ord.lt k e.symm).1; omega]
  have hbw : w'.heap[bw]? = some (.cells #[va, vb, vo, .map (some bm), .pointer (some ⟨bs, 0, none⟩)] 89 (0, 0)) := by
    rw [hg.block bw h3 fun e => by have := (h.ord.lt bw e.symm).1; omega]; exact h.blk
  refine ⟨sa_keep h.sa (key _ h1.1 h5.2.1 (by omega)) (key _ h1.2 h5.2.2.1 (by omega)), ?_, ?_, pm_other h.map (key _ h2 h5.2.2.2 (by omega)), h.far, h.old, by
    have := hg.size; have := h.big; simp; omega⟩
  · rw [setCell_block hbw]; rfl
  · rw [List.length_append, List.length_singleton, flatP_snoc]
    exact row_same hr fun k e => Below.heap_setCell _ _ _ _ (show k ≠ bw by have := hv2 k e; omega)
theorem WS.entry {w : World} {bw bs g cap nn bm B c : Nat} {va vb vo : Value} {ps : List (Int × Int)} {L L' : List ((Int × Int) × Value)} {A : Nat → Nat} {es : Array MapEntry} (h : WS w bw bs g cap nn bm B va vb vo ps L A)
    (hm : PM (setMap w bm es c) bm L') : WS (setMap w bm es c) bw bs g cap nn bm B va vb vo ps L' A := by
  have h1 := sa_lt h.sa
  have h4 := h.far
  have h5 := h.old
  have key : ∀ k, k ≠ bm → (setMap w bm es c).heap[k]? = w.heap[k]? := fun k hk => by
    have : bm ≠ k := fun e => hk e.symm
    simp [setMap, this]
  exact ⟨sa_keep h.sa (key _ (by omega)) (key _ (by omega)), (key _ (by omega)).trans h.blk, row_same h.ord fun k e => key k (by have := (h.ord.lt k e).1; omega), hm, h.far, h.old, by have := h.big; simp [setMap]; omega⟩
theorem infoPair : (Try.prog.info? 92).map (fun i => (i.zero, i.size, i.bytes)) = some (some (.agg #[.int .i64 0, .int .i64 0]), 2, 16) := by kernel_rfl
theorem joinR_same {R : Nat → Nat} {x y : Nat} (h : R x = R y) : joinR R x y = R := by
  funext i
  unfold joinR
  by_cases e : R i = R x
  · rw [if_pos e, e, h]
  · rw [if_neg e]
def Visited (w w' : World) (bw bs g cap nn bm B : Nat) (va vb vo : Value) (ps : List (Int × Int)) (L : List ((Int × Int) × Value)) (R : Nat → Nat) (x y : Nat) (p f : Int × Int) (b : Nat) : Prop :=
  Oth w w' (Own bw g bm vo) ∧ ∃ r' A', UF r' nn A' (joinR R x y) ∧
    ((R x = R y ∧ WS w' bw bs g cap nn bm B va vb vo ps L A') ∨
     (R x ≠ R y ∧ ∃ vo', (vo'.ownBlock = vo.ownBlock ∨ ∃ q, vo'.ownBlock = some q ∧ w.heap.size ≤ q) ∧ WS w' bw bs g cap nn bm B va vb vo' (ps ++ [p]) (L ++ [(p, sv f b)]) A'))
set_option linter.unusedSimpArgs false in
set_option maxHeartbeats 4000000 in
theorem visit_any (r : Nat → Nat) (bw bs g cap nn bm B la ca x y : Nat) (aa : Option Addr) (vb vo : Value) (ps : List (Int × Int)) (L : List ((Int × Int) × Value)) (A R : Nat → Nat) (p0 p1 f0 f1 : Int) (b : Nat) (w : World)
    (hW : WS w bw bs g cap nn bm B (.slice aa la ca) vb vo ps L A) (hu : UF r nn A R) (hla : la < 10000) (hp : -1 ≤ p0 ∧ p0 < 10000 ∧ -1 ≤ p1 ∧ p1 < 10000) (hx : markN la 0 p0 = (x : Nat)) (hy : markN la 1 p1 = (y : Nat)) (hxn : x < nn) (hyn : y < nn)
    (hnew : R x ≠ R y → ∀ z ∈ L, z.1 ≠ (p0, p1)) (hps : ps.length < 100000) :
    Calls Try.prog 55 #[.pointer (some ⟨bw, 0, none⟩), .agg #[.int .i64 p0, .int .i64 p1], .agg #[.int .i64 f0, .int .i64 f1, .int .u8 b]] w fun e w' => e = .returned (.tuple #[]) ∧ Hid (Visited w w' bw bs g cap nn bm B (.slice aa la ca) vb vo ps L R x y (p0, p1) (f0, f1) b) := by
  have mixed : Try.prog.follows .mixedOrders = true := by kernel_rfl
  obtain ⟨i0, hi0, hz0, hz1, hz2⟩ := info_parts infoPair
  have HI := Lib.hid (And.intro hi0 (And.intro hz0 (And.intro hz1 hz2)))
  clear hi0 hz0 hz1 hz2
  obtain ⟨N, hN⟩ : ∃ N, w.heap.size = N := ⟨_, rfl⟩
  obtain ⟨w1, hw1⟩ : ∃ w1, (w.alloc (.cells #[.int .i64 p0, .int .i64 p1] 92)).alloc (.cells #[.int .i64 f0, .int .i64 f1, .int .u8 b] 95) = w1 := ⟨_, rfl⟩
  have hb1 : Below w.heap.size w w1 := by rw [← hw1]; exact (new_one w _).trans ((new_one _ _).mono (by simp))
  have hs1 : w1.heap.size = N + 1 + 1 := by rw [← hw1]; simp [hN]
  have hx1 : w1.heap[N]? = some (.cells #[.int .i64 p0, .int .i64 p1] 92 (0, 0)) := by rw [← hw1, heap_alloc_old _ _ (by simp; omega), ← hN]; exact heap_alloc_new w _
  have hx2 : w1.heap[N + 1]? = some (.cells #[.int .i64 f0, .int .i64 f1, .int .u8 b] 95 (0, 0)) := by
    have := heap_alloc_new (w.alloc (.cells #[.int .i64 p0, .int .i64 p1] 92)) (.cells #[.int .i64 f0, .int .i64 f1, .int .u8 b] 95)
    simp only [World.size_alloc, hN] at this
    rw [← hw1]; exact this
  have hold := hW.old
  have hbig := hW.big
  have hW1 := (hW.below hb1).below (Below.refl w1.heap.size w1).drew
  have e0 : w1.drew.cell? ⟨bw, 0, none⟩ = some (.slice aa la ca) := (cell_of_row w1 bw 0 _ _ _ hW1.blk).trans rfl
  have e1 : w1.drew.cell? ⟨bw, 4, none⟩ = some (.pointer (some ⟨bs, 0, none⟩)) := (cell_of_row w1 bw 4 _ _ _ hW1.blk).trans rfl
  have e2 : w1.drew.cell? ⟨N, 0, none⟩ = some (.int .i64 p0) := (cell_of_row w1 N 0 _ _ _ hx1).trans rfl
  have e3 : w1.drew.cell? ⟨N, 1, none⟩ = some (.int .i64 p1) := (cell_of_row w1 N 1 _ _ _ hx1).trans rfl
  have HM0 := Lib.hid (show ∀ w9 : World, w9.cell? ⟨bw, 0, none⟩ = some (.slice aa la ca) → Calls Try.prog 66 #[.pointer (some ⟨bw, 0, none⟩), .int .i64 0, .int .i64 p0] w9 (fun e w' => e = .returned (.int .i64 (x : Nat)) ∧ w' = w9) from fun w9 h9 => by
    have := mark_any bw la aa ca 0 p0 w9 (by decide) hla hp.1 hp.2.1 h9
    rw [hx] at this; exact this)
  have HM1 := Lib.hid (show ∀ w9 : World, w9.cell? ⟨bw, 0, none⟩ = some (.slice aa la ca) → Calls Try.prog 66 #[.pointer (some ⟨bw, 0, none⟩), .int .i64 1, .int .i64 p1] w9 (fun e w' => e = .returned (.int .i64 (y : Nat)) ∧ w' = w9) from fun w9 h9 => by
    have := mark_any bw la aa ca 1 p1 w9 (by decide) hla hp.2.2.1 hp.2.2.2 h9
    rw [hy] at this; exact this)
  clear hx hy hp
  have HJ := Lib.hid (join_any r bs g cap nn x y A R w1.drew hW1.sa hu hxn hyn)
  have HW1 := Lib.hid hW1
  have HB1 : Hid (Oth w w1.drew (Own bw g bm vo)) := Lib.hid (Oth.of_below (hb1.trans ((Below.refl w1.heap.size w1).drew.mono hb1.size)))
  have HX1 := Lib.hid hx1
  have HX2 := Lib.hid hx2
  have hfar := hW.far
  have HNEW := Lib.hid hnew
  have HROW := Lib.hid hW.ord
  obtain ⟨a3, cp3, rfl⟩ := row_form hW.ord
  have hw1N : w1.drew.heap.size = N + 1 + 1 := hs1
  clear hW hb1 hW1 hnew hx1 hx2 hu
  by_cases hxy : R x = R y
  · have HD := Lib.hid (show decide (R x ≠ R y) = false from decide_eq_false fun h => h hxy)
    have HXY := Lib.hid hxy
    have HJS := Lib.hid (joinR_same hxy)
    clear hxy
    skip
    go_enter Try.func55, Try.ntmps55
    go_upto_region 1 with fail
    skip
    clear hw1
    refine region_goes 113 13 rfl (fun W => W.cell? ⟨bw, 0, none⟩ = some (.slice aa la ca) ∧ W.cell? ⟨bw, 4, none⟩ = some (.pointer (some ⟨bs, 0, none⟩)) ∧ W.cell? ⟨N, 0, none⟩ = some (.int .i64 p0) ∧ W.cell? ⟨N, 1, none⟩ = some (.int .i64 p1)) mixed ⟨e0, e1, e2, e3⟩ (fun hHeld => ?_)
    clear e0 e1 e2 e3
    refine goes_take0 (i := 0) (v := ?hv1) rfl (by kernel_rfl) (by kernel_rfl) (by kernel_rfl) rfl (fun _ _ _ h => h) (Or.inl ⟨by rfl, ?hy1⟩) (by assumption) ?hr1
    case hy1 => (intro W9 hW9; obtain ⟨k0, k1, k2, k3⟩ := hW9; first | (go_simp; done) | (go_simp; with_reducible rfl))
    simp only [Act.put, getElem_toArray, getElem_cons_succ, getElem_cons_zero, setIfInBounds_toArray, set_cons_zero, set_cons_succ]
    refine goes_take0 (i := 1) (v := ?hv2) rfl (by kernel_rfl) (by kernel_rfl) (by kernel_rfl) rfl (fun _ _ _ h => h) (Or.inl ⟨by rfl, ?hy2⟩) (by assumption) ?hr2
    case hy2 => (intro W9 hW9; obtain ⟨k0, k1, k2, k3⟩ := hW9; first | (go_simp; done) | (go_simp; with_reducible rfl))
    simp only [Act.put, getElem_toArray, getElem_cons_succ, getElem_cons_zero, setIfInBounds_toArray, set_cons_zero, set_cons_succ]
    refine goes_take0 (i := 2) (v := ?hv3) rfl (by kernel_rfl) (by kernel_rfl) (by kernel_rfl) rfl (fun _ _ _ h => h) (Or.inl ⟨by rfl, ?hy3⟩) (by assumption) ?hr3
    case hy3 => (intro W9 hW9; obtain ⟨k0, k1, k2, k3⟩ := hW9; first | (go_simp; done) | (go_simp; with_reducible rfl))
    simp only [Act.put, getElem_toArray, getElem_cons_succ, getElem_cons_zero, setIfInBounds_toArray, set_cons_zero, set_cons_succ]
    refine goes_take0 (i := 3) (v := ?hv4) rfl (by kernel_rfl) (by kernel_rfl) (by kernel_rfl) rfl (fun _ _ _ h => h) (Or.inl ⟨by rfl, ?hy4⟩) (by assumption) ?hr4
    case hy4 => (intro W9 hW9; obtain ⟨k0, k1, k2, k3⟩ := hW9; first | (go_simp; done) | (go_simp; with_reducible rfl))
    simp only [Act.put, getElem_toArray, getElem_cons_succ, getElem_cons_zero, setIfInBounds_toArray, set_cons_zero, set_cons_succ]
    refine goes_take0 (i := 4) (v := ?hv5) rfl (by kernel_rfl) (by kernel_rfl) (by kernel_rfl) rfl (fun _ _ _ h => h) (Or.inl ⟨by rfl, ?hy5⟩) (by assumption) ?hr5
    case hy5 => (intro W9 hW9; obtain ⟨k0, k1, k2, k3⟩ := hW9; first | (go_simp; done) | (go_simp; with_reducible rfl))
    simp only [Act.put, getElem_toArray, getElem_cons_succ, getElem_cons_zero, setIfInBounds_toArray, set_cons_zero, set_cons_succ]
    refine goes_take0 (i := 5) (v := ?hv6) rfl (by kernel_rfl) (by kernel_rfl) (by kernel_rfl) rfl (fun _ _ _ h => h) (Or.inl ⟨by rfl, ?hy6⟩) (by assumption) ?hr6
    case hy6 => (intro W9 hW9; obtain ⟨k0, k1, k2, k3⟩ := hW9; first | (go_simp; done) | (go_simp; with_reducible rfl))
    simp only [Act.put, getElem_toArray, getElem_cons_succ, getElem_cons_zero, setIfInBounds_toArray, set_cons_zero, set_cons_succ]
    refine goes_take0 (i := 6) (v := ?hv7) rfl (by kernel_rfl) (by kernel_rfl) (by kernel_rfl) rfl (fun _ _ _ h => h) (Or.inl ⟨by rfl, ?hy7⟩) (by assumption) ?hr7
    case hy7 => (intro W9 hW9; obtain ⟨k0, k1, k2, k3⟩ := hW9; first | (go_simp; done) | (go_simp; with_reducible rfl))
    simp only [Act.put, getElem_toArray, getElem_cons_succ, getElem_cons_zero, setIfInBounds_toArray, set_cons_zero, set_cons_succ]
    refine goes_take0 (i := 8) (v := ?hv8) rfl (by kernel_rfl) (by kernel_rfl) (by kernel_rfl) rfl (fun _ _ _ h => h) (Or.inl ⟨by rfl, ?hy8⟩) (by assumption) ?hr8
    case hy8 => (intro W9 hW9; obtain ⟨k0, k1, k2, k3⟩ := hW9; first | (go_simp; done) | (go_simp; with_reducible rfl))
    simp only [Act.put, getElem_toArray, getElem_cons_succ, getElem_cons_zero, setIfInBounds_toArray, set_cons_zero, set_cons_succ]
    refine goes_take0 (i := 9) (v := ?hv9) rfl (by kernel_rfl) (by kernel_rfl) (by kernel_rfl) rfl (fun _ _ _ h => h) (Or.inl ⟨by rfl, ?hy9⟩) (by assumption) ?hr9
    case hy9 => (intro W9 hW9; obtain ⟨k0, k1, k2, k3⟩ := hW9; first | (go_simp; done) | (go_simp; with_reducible rfl))
    simp only [Act.put, getElem_toArray, getElem_cons_succ, getElem_cons_zero, setIfInBounds_toArray, set_cons_zero, set_cons_succ]
    refine goes_take0 (i := 10) (v := ?hv10) rfl (by kernel_rfl) (by kernel_rfl) (by kernel_rfl) rfl (fun _ _ _ h => h) (Or.inl ⟨by rfl, ?hy10⟩) (by assumption) ?hr10
    case hy10 => (intro W9 hW9; obtain ⟨k0, k1, k2, k3⟩ := hW9; first | (go_simp; done) | (go_simp; with_reducible rfl))
    simp only [Act.put, getElem_toArray, getElem_cons_succ, getElem_cons_zero, setIfInBounds_toArray, set_cons_zero, set_cons_succ]
    refine goes_one (i := 7) (by kernel_rfl) rfl (fun K9 hK9 => ?_)
    go_simp
    with_reducible refine (HM0.out _ hHeld.1).mono ?_
    rintro e w4 ⟨rfl, rfl⟩
    obtain ⟨k0, k1, k2, k3⟩ := hHeld
    refine hK9.out _ _ (fun _ => ⟨k0, k1, k2, k3⟩) (fun hHeld => ?_)
    have hHeld := hHeld (by decide)
    clear hK9 K9 k0 k1 k2 k3
    refine goes_one (i := 11) (by kernel_rfl) rfl (fun K9 hK9 => ?_)
    go_simp
    with_reducible refine (HM1.out _ hHeld.1).mono ?_
    rintro e w4 ⟨rfl, rfl⟩
    obtain ⟨k0, k1, k2, k3⟩ := hHeld
    refine hK9.out _ _ (fun _ => ⟨k0, k1, k2, k3⟩) (fun hHeld => ?_)
    have hHeld := hHeld (by decide)
    clear hK9 K9 k0 k1 k2 k3
    refine goes_one (i := 12) (by kernel_rfl) rfl (fun K9 hK9 => ?_)
    go_simp
    with_reducible refine (HJ.out).mono ?_
    rintro e w5 ⟨rfl, r', A', hu5, hs5, hg5⟩
    rw [HD.out]
    obtain ⟨k0, k1, k2, k3⟩ := hHeld
    refine hK9.out _ _ (fun _ => ⟨(Oth.of_gb (S := fun k => k = g) hg5.out (fun k e => by cases e; rfl)).cell k0 (by show bw ≠ g; omega), (Oth.of_gb (S := fun k => k = g) hg5.out (fun k e => by cases e; rfl)).cell k1 (by show bw ≠ g; omega), (Oth.of_gb (S := fun k => k = g) hg5.out (fun k e => by cases e; rfl)).cell k2 (by show N ≠ g; omega), (Oth.of_gb (S := fun k => k = g) hg5.out (fun k e => by cases e; rfl)).cell k3 (by show N ≠ g; omega)⟩) (fun hHeld => ?_)
    have hHeld := hHeld (by decide)
    clear hK9 K9 k0 k1 k2 k3
    refine goes_done (by kernel_rfl) ?_ _
    go_wp2
    go_end0
    exact ⟨rfl, Lib.hid ⟨HB1.out.trans (Oth.of_gb hg5.out fun k e => by cases e; exact .inr (.inl rfl)) (fun _ _ h => h), r', A', hu5.out, .inl ⟨HXY.out, HW1.out.joined hg5.out hs5.out⟩⟩⟩
  · have HD := Lib.hid (show decide (R x ≠ R y) = true from decide_eq_true hxy)
    have HXY := Lib.hid hxy
    clear hxy
    skip
    go_enter Try.func55, Try.ntmps55
    go_upto_region 1 with fail
    skip
    clear hw1
    refine region_goes 113 13 rfl (fun W => W.cell? ⟨bw, 0, none⟩ = some (.slice aa la ca) ∧ W.cell? ⟨bw, 4, none⟩ = some (.pointer (some ⟨bs, 0, none⟩)) ∧ W.cell? ⟨N, 0, none⟩ = some (.int .i64 p0) ∧ W.cell? ⟨N, 1, none⟩ = some (.int .i64 p1)) mixed ⟨e0, e1, e2, e3⟩ (fun hHeld => ?_)
    clear e0 e1 e2 e3
    refine goes_take0 (i := 0) (v := ?hv11) rfl (by kernel_rfl) (by kernel_rfl) (by kernel_rfl) rfl (fun _ _ _ h => h) (Or.inl ⟨by rfl, ?hy11⟩) (by assumption) ?hr11
    case hy11 => (intro W9 hW9; obtain ⟨k0, k1, k2, k3⟩ := hW9; first | (go_simp; done) | (go_simp; with_reducible rfl))
    simp only [Act.put, getElem_toArray, getElem_cons_succ, getElem_cons_zero, setIfInBounds_toArray, set_cons_zero, set_cons_succ]
    refine goes_take0 (i := 1) (v := ?hv12) rfl (by kernel_rfl) (by kernel_rfl) (by kernel_rfl) rfl (fun _ _ _ h => h) (Or.inl ⟨by rfl, ?hy12⟩) (by assumption) ?hr12
    case hy12 => (intro W9 hW9; obtain ⟨k0, k1, k2, k3⟩ := hW9; first | (go_simp; done) | (go_simp; with_reducible rfl))
    simp only [Act.put, getElem_toArray, getElem_cons_succ, getElem_cons_zero, setIfInBounds_toArray, set_cons_zero, set_cons_succ]
    refine goes_take0 (i := 2) (v := ?hv13) rfl (by kernel_rfl) (by kernel_rfl) (by kernel_rfl) rfl (fun _ _ _ h => h) (Or.inl ⟨by rfl, ?hy13⟩) (by assumption) ?hr13
    case hy13 => (intro W9 hW9; obtain ⟨k0, k1, k2, k3⟩ := hW9; first | (go_simp; done) | (go_simp; with_reducible rfl))
    simp only [Act.put, getElem_toArray, getElem_cons_succ, getElem_cons_zero, setIfInBounds_toArray, set_cons_zero, set_cons_succ]
    refine goes_take0 (i := 3) (v := ?hv14) rfl (by kernel_rfl) (by kernel_rfl) (by kernel_rfl) rfl (fun _ _ _ h => h) (Or.inl ⟨by rfl, ?hy14⟩) (by assumption) ?hr14
    case hy14 => (intro W9 hW9; obtain ⟨k0, k1, k2, k3⟩ := hW9; first | (go_simp; done) | (go_simp; with_reducible rfl))
    simp only [Act.put, getElem_toArray, getElem_cons_succ, getElem_cons_zero, setIfInBounds_toArray, set_cons_zero, set_cons_succ]
    refine goes_take0 (i := 4) (v := ?hv15) rfl (by kernel_rfl) (by kernel_rfl) (by kernel_rfl) rfl (fun _ _ _ h => h) (Or.inl ⟨by rfl, ?hy15⟩) (by assumption) ?hr15
    case hy15 => (intro W9 hW9; obtain ⟨k0, k1, k2, k3⟩ := hW9; first | (go_simp; done) | (go_simp; with_reducible rfl))
    simp only [Act.put, getElem_toArray, getElem_cons_succ, getElem_cons_zero, setIfInBounds_toArray, set_cons_zero, set_cons_succ]
    refine goes_take0 (i := 5) (v := ?hv16) rfl (by kernel_rfl) (by kernel_rfl) (by kernel_rfl) rfl (fun _ _ _ h => h) (Or.inl ⟨by rfl, ?hy16⟩) (by assumption) ?hr16
    case hy16 => (intro W9 hW9; obtain ⟨k0, k1, k2, k3⟩ := hW9; first | (go_simp; done) | (go_simp; with_reducible rfl))
    simp only [Act.put, getElem_toArray, getElem_cons_succ, getElem_cons_zero, setIfInBounds_toArray, set_cons_zero, set_cons_succ]
    refine goes_take0 (i := 6) (v := ?hv17) rfl (by kernel_rfl) (by kernel_rfl) (by kernel_rfl) rfl (fun _ _ _ h => h) (Or.inl ⟨by rfl, ?hy17⟩) (by assumption) ?hr17
    case hy17 => (intro W9 hW9; obtain ⟨k0, k1, k2, k3⟩ := hW9; first | (go_simp; done) | (go_simp; with_reducible rfl))
    simp only [Act.put, getElem_toArray, getElem_cons_succ, getElem_cons_zero, setIfInBounds_toArray, set_cons_zero, set_cons_succ]
    refine goes_take0 (i := 8) (v := ?hv18) rfl (by kernel_rfl) (by kernel_rfl) (by kernel_rfl) rfl (fun _ _ _ h => h) (Or.inl ⟨by rfl, ?hy18⟩) (by assumption) ?hr18
    case hy18 => (intro W9 hW9; obtain ⟨k0, k1, k2, k3⟩ := hW9; first | (go_simp; done) | (go_simp; with_reducible rfl))
    simp only [Act.put, getElem_toArray, getElem_cons_succ, getElem_cons_zero, setIfInBounds_toArray, set_cons_zero, set_cons_succ]
    refine goes_take0 (i := 9) (v := ?hv19) rfl (by kernel_rfl) (by kernel_rfl) (by kernel_rfl) rfl (fun _ _ _ h => h) (Or.inl ⟨by rfl, ?hy19⟩) (by assumption) ?hr19
    case hy19 => (intro W9 hW9; obtain ⟨k0, k1, k2, k3⟩ := hW9; first | (go_simp; done) | (go_simp; with_reducible rfl))
    simp only [Act.put, getElem_toArray, getElem_cons_succ, getElem_cons_zero, setIfInBounds_toArray, set_cons_zero, set_cons_succ]
    refine goes_take0 (i := 10) (v := ?hv20) rfl (by kernel_rfl) (by kernel_rfl) (by kernel_rfl) rfl (fun _ _ _ h => h) (Or.inl ⟨by rfl, ?hy20⟩) (by assumption) ?hr20
    case hy20 => (intro W9 hW9; obtain ⟨k0, k1, k2, k3⟩ := hW9; first | (go_simp; done) | (go_simp; with_reducible rfl))
    simp only [Act.put, getElem_toArray, getElem_cons_succ, getElem_cons_zero, setIfInBounds_toArray, set_cons_zero, set_cons_succ]
    refine goes_one (i := 7) (by kernel_rfl) rfl (fun K9 hK9 => ?_)
    go_simp
    with_reducible refine (HM0.out _ hHeld.1).mono ?_
    rintro e w4 ⟨rfl, rfl⟩
    obtain ⟨k0, k1, k2, k3⟩ := hHeld
    refine hK9.out _ _ (fun _ => ⟨k0, k1, k2, k3⟩) (fun hHeld => ?_)
    have hHeld := hHeld (by decide)
    clear hK9 K9 k0 k1 k2 k3
    refine goes_one (i := 11) (by kernel_rfl) rfl (fun K9 hK9 => ?_)
    go_simp
    with_reducible refine (HM1.out _ hHeld.1).mono ?_
    rintro e w4 ⟨rfl, rfl⟩
    obtain ⟨k0, k1, k2, k3⟩ := hHeld
    refine hK9.out _ _ (fun _ => ⟨k0, k1, k2, k3⟩) (fun hHeld => ?_)
    have hHeld := hHeld (by decide)
    clear hK9 K9 k0 k1 k2 k3
    refine goes_one (i := 12) (by kernel_rfl) rfl (fun K9 hK9 => ?_)
    go_simp
    with_reducible refine (HJ.out).mono ?_
    rintro e w5 ⟨rfl, r', A', hu5, hs5, hg5⟩
    rw [HD.out]
    obtain ⟨k0, k1, k2, k3⟩ := hHeld
    refine hK9.out _ _ (fun _ => ⟨(Oth.of_gb (S := fun k => k = g) hg5.out (fun k e => by cases e; rfl)).cell k0 (by show bw ≠ g; omega), (Oth.of_gb (S := fun k => k = g) hg5.out (fun k e => by cases e; rfl)).cell k1 (by show bw ≠ g; omega), (Oth.of_gb (S := fun k => k = g) hg5.out (fun k e => by cases e; rfl)).cell k2 (by show N ≠ g; omega), (Oth.of_gb (S := fun k => k = g) hg5.out (fun k e => by cases e; rfl)).cell k3 (by show N ≠ g; omega)⟩) (fun hHeld => ?_)
    have hHeld := hHeld (by decide)
    clear hK9 K9 k0 k1 k2 k3
    refine goes_done (by kernel_rfl) ?_ _
    have HW5 := Lib.hid (HW1.out.joined hg5.out hs5.out)
    have HO5 := Lib.hid (HB1.out.trans (Oth.of_gb (S := Own bw g bm (.slice a3 ps.length cp3)) hg5.out fun k e => by cases e; exact .inr (.inl rfl)) (fun _ _ h => h))
    have HU5 := Lib.hid hu5.out
    have hx5 : w5.heap[N]? = some (.cells #[.int .i64 p0, .int .i64 p1] 92 (0, 0)) := (hg5.out.block _ (by rw [hw1N]; omega) (by simp; omega)).trans HX1.out
    have hx6 : w5.heap[N + 1]? = some (.cells #[.int .i64 f0, .int .i64 f1, .int .u8 b] 95 (0, 0)) := (hg5.out.block _ (by rw [hw1N]; omega) (by simp; omega)).trans HX2.out
    have HX5 := Lib.hid hx5
    have HX6 := Lib.hid hx6
    have hs5z : N + 1 + 1 ≤ w5.heap.size := by have := hg5.out.size; rw [hw1N] at this; exact this
    clear hu5 hs5 hg5 HJ HW1 HB1 HX1 HX2 HD
    go_upto_region 2 with fail
    have e0 : w5.drew.cell? ⟨bw, 2, none⟩ = some (.slice a3 ps.length cp3) := (cell_of_row w5 bw 2 _ _ _ HW5.out.blk).trans rfl
    have e1 : w5.drew.cell? ⟨N, 0, none⟩ = some (.int .i64 p0) := (cell_of_row w5 N 0 _ _ _ hx5).trans rfl
    have e2 : w5.drew.cell? ⟨N, 1, none⟩ = some (.int .i64 p1) := (cell_of_row w5 N 1 _ _ _ hx5).trans rfl
    clear hx5 hx6
    refine region_goes 10 11 rfl (fun W => W.cell? ⟨bw, 2, none⟩ = some (.slice a3 ps.length cp3) ∧ W.cell? ⟨N, 0, none⟩ = some (.int .i64 p0) ∧ W.cell? ⟨N, 1, none⟩ = some (.int .i64 p1)) mixed ⟨e0, e1, e2⟩ (fun hHeld => ?_)
    clear e0 e1 e2
    refine goes_take (i := 0) (v := ?gv1) rfl (by kernel_rfl) (by kernel_rfl) (by kernel_rfl) (by kernel_rfl) (fun _ _ _ h => h) (Or.inl ⟨by rfl, ?gy1⟩) (by assumption) ?gr1
    case gy1 => (intro W9 hW9; obtain ⟨k0, k1, k2⟩ := hW9; first | (go_simp; done) | (go_simp; with_reducible rfl))
    simp only [Act.put, getElem_toArray, getElem_cons_succ, getElem_cons_zero, setIfInBounds_toArray, set_cons_zero, set_cons_succ]
    refine goes_take (i := 1) (v := ?gv2) rfl (by kernel_rfl) (by kernel_rfl) (by kernel_rfl) (by kernel_rfl) (fun _ _ _ h => h) (Or.inl ⟨by rfl, ?gy2⟩) (by assumption) ?gr2
    case gy2 => (intro W9 hW9; obtain ⟨k0, k1, k2⟩ := hW9; first | (go_simp; done) | (go_simp; with_reducible rfl))
    simp only [Act.put, getElem_toArray, getElem_cons_succ, getElem_cons_zero, setIfInBounds_toArray, set_cons_zero, set_cons_succ]
    refine goes_take (i := 2) (v := ?gv3) rfl (by kernel_rfl) (by kernel_rfl) (by kernel_rfl) (by kernel_rfl) (fun _ _ _ h => h) (Or.inl ⟨by rfl, ?gy3⟩) (by assumption) ?gr3
    case gy3 => (intro W9 hW9; obtain ⟨k0, k1, k2⟩ := hW9; first | (go_simp; done) | (go_simp; with_reducible rfl))
    simp only [Act.put, getElem_toArray, getElem_cons_succ, getElem_cons_zero, setIfInBounds_toArray, set_cons_zero, set_cons_succ]
    refine goes_take (i := 3) (v := ?gv4) rfl (by kernel_rfl) (by kernel_rfl) (by kernel_rfl) (by kernel_rfl) (fun _ _ _ h => h) (Or.inl ⟨by rfl, ?gy4⟩) (by assumption) ?gr4
    case gy4 => (intro W9 hW9; obtain ⟨k0, k1, k2⟩ := hW9; first | (go_simp; done) | (go_simp; with_reducible rfl))
    simp only [Act.put, getElem_toArray, getElem_cons_succ, getElem_cons_zero, setIfInBounds_toArray, set_cons_zero, set_cons_succ]
    refine goes_take (i := 4) (v := ?gv5) rfl (by kernel_rfl) (by kernel_rfl) (by kernel_rfl) (by kernel_rfl) (fun _ _ _ h => h) (Or.inl ⟨by rfl, ?gy5⟩) (by assumption) ?gr5
    case gy5 => (intro W9 hW9; obtain ⟨k0, k1, k2⟩ := hW9; first | (go_simp; done) | (go_simp; with_reducible rfl))
    simp only [Act.put, getElem_toArray, getElem_cons_succ, getElem_cons_zero, setIfInBounds_toArray, set_cons_zero, set_cons_succ]
    refine goes_take (i := 5) (v := ?gv6) rfl (by kernel_rfl) (by kernel_rfl) (by kernel_rfl) (by kernel_rfl) (fun _ _ _ h => h) (Or.inl ⟨by rfl, ?gy6⟩) (by assumption) ?gr6
    case gy6 => (intro W9 hW9; obtain ⟨k0, k1, k2⟩ := hW9; first | (go_simp; done) | (go_simp; with_reducible rfl))
    simp only [Act.put, getElem_toArray, getElem_cons_succ, getElem_cons_zero, setIfInBounds_toArray, set_cons_zero, set_cons_succ]
    refine goes_one (i := 6) (by kernel_rfl) rfl (fun K9 hK9 => ?_)
    go_simp
    obtain ⟨w6, hw6⟩ : ∃ w6, (w5.alloc (.cells #[.int .i64 p0, .int .i64 p1] 92)).drew = w6 := ⟨_, rfl⟩
    have hba : Below w5.drew.heap.size w5.drew w6 := by
      have h := new_one w5 (.cells #[.int .i64 p0, .int .i64 p1] 92)
      rw [← hw6]; exact ⟨h.os, h.tape, h.output, h.size, h.block⟩
    have hx8 : w6.heap[w5.heap.size]? = some (.cells #[.int .i64 p0, .int .i64 p1] 92 (0, 0)) := by rw [← hw6]; exact heap_alloc_new w5 _
    have hs6 : w6.heap.size = w5.heap.size + 1 := by rw [← hw6]; show (w5.alloc _).heap.size = _; simp
    have HW6 := Lib.hid ((HW5.out.below (Below.refl w5.heap.size w5).drew).below hba)
    have HO6 := Lib.hid (HO5.out.trans (Oth.of_below (S := Own bw g bm (.slice a3 ps.length cp3)) (((Below.refl w5.heap.size w5).drew).trans hba)) (fun _ _ h => h))
    have HX66 := Lib.hid (((((Below.refl w5.heap.size w5).drew).trans hba).block (N + 1) (by omega)).trans HX6.out)
    obtain ⟨k0, k1, k2⟩ := hHeld
    have hk6 := And.intro (cell_below hba k0) (And.intro (cell_below hba k1) (cell_below hba k2))
    rw [hw6]
    refine hK9.out _ _ (fun _ => hk6) (fun hHeld => ?_)
    have hHeld := hHeld (by decide)
    clear hK9 K9 k0 k1 k2 hk6 HW5 HO5 HX6 hw6 hba
    refine goes_one (i := 7) (by kernel_rfl) rfl (fun K9 hK9 => ?_)
    rw [if_pos (by rfl)]
    refine wp_append_lies _ _ _ 87 rfl B 92 i0 (.agg #[.int .i64 0, .int .i64 0]) 2 16 Try.underlying87 HI.out.1 HI.out.2.1 HI.out.2.2.1 HI.out.2.2.2 rfl (by decide) (.slice a3 ps.length cp3) ps.length (flatP ps) rfl HW6.out.ord ⟨w5.heap.size, 0, none⟩ 1 1 [.int .i64 p0, .int .i64 p1] rfl rfl (news_in (cs := #[.int .i64 p0, .int .i64 p1]) hx8) (by simp [Value.oneCell']) (by omega) (by unfold maxLen; omega) (by omega) (by omega) (w5.heap.size + 1) hs6 ?_
    intro g9 cap2 w8 h2 h3 h4 h5
    have hv8 : (Value.slice (some ⟨g9, 0, none⟩) (ps.length + 1) cap2).ownBlock = (Value.slice a3 ps.length cp3).ownBlock ∨ ∃ q, (Value.slice (some ⟨g9, 0, none⟩) (ps.length + 1) cap2).ownBlock = some q ∧ w6.heap.size ≤ q := by
      rcases h4 with h4 | h4
      · exact .inl h4.symm
      · exact .inr ⟨g9, rfl, by omega⟩
    have HWP := Lib.hid (HW6.out.pushed (p := (p0, p1)) h3 h2 hv8)
    have HO8 := Lib.hid (HO6.out.trans (Oth.of_gb (S := Own bw g bm (.slice a3 ps.length cp3)) h3 fun k e => .inr (.inr (.inr e))) (fun _ _ h => h))
    have HG9 : Hid ((Value.slice (some ⟨g9, 0, none⟩) (ps.length + 1) cap2).ownBlock = (Value.slice a3 ps.length cp3).ownBlock ∨ ∃ q, (Value.slice (some ⟨g9, 0, none⟩) (ps.length + 1) cap2).ownBlock = some q ∧ w.heap.size ≤ q) := Lib.hid (hv8.imp_right fun ⟨q, h1, h2⟩ => ⟨q, h1, by omega⟩)
    have hne8 : ∀ k, k < N + 1 + 1 → N ≤ k ∨ k = bw → some k ≠ (Value.slice a3 ps.length cp3).ownBlock := fun k hk hk2 e => by have := (HROW.out.lt k e.symm); rw [hN] at this; omega
    have hx9 := Lib.hid ((h3.block (N + 1) (by omega) (hne8 _ (by omega) (by omega))).trans HX66.out)
    obtain ⟨k0, k1, k2⟩ := hHeld
    have hk8 : ∀ {a : Addr} {v : Value}, w6.cell? a = some v → some a.block ≠ (Value.slice a3 ps.length cp3).ownBlock → w8.cell? a = some v := fun hc hn => (World.cell?_of_block (h3.block _ (cell_lt hc) hn)).trans hc
    have hfz : w8.frozen? ⟨bw, 2, none⟩ = false := by
      have h9 : w8.heap[bw]? = w6.heap[bw]? := h3.block bw (lt_of_block HW6.out.blk) (hne8 _ (by omega) (.inr rfl))
      exact frozen_row (j := 2) (h9.trans HW6.out.blk)
    refine hK9.out _ _ (fun _ => ⟨hk8 k0 (hne8 _ (by show bw < _; omega) (.inr rfl)), hk8 k1 (hne8 _ (by show N < _; omega) (.inl (by show N ≤ N; omega))), hk8 k2 (hne8 _ (by show N < _; omega) (.inl (by show N ≤ N; omega)))⟩) (fun hHeld => ?_)
    have hHeld := hHeld (by decide)
    clear hK9 K9 k0 k1 k2 hk8 h2 h3 h4 h5 hv8 hne8 HW6 HO6 HX66 hx8
    refine goes_one (i := 8) (by kernel_rfl) rfl (fun K9 hK9 => ?_)
    go_simp
    refine hK9.out _ _ (fun _ => hHeld) (fun hHeld => ?_)
    have hHeld := hHeld (by decide)
    clear hK9 K9
    refine goes_one (i := 9) (by kernel_rfl) rfl (fun K9 hK9 => ?_)
    go_simp
    refine hK9.out _ _ (fun _ => hHeld) (fun hHeld => ?_)
    have hHeld := hHeld (by decide)
    clear hK9 K9
    refine goes_one (i := 10) (by kernel_rfl) rfl (fun K9 hK9 => ?_)
    go_simp
    refine hK9.out _ _ (fun h => absurd rfl h) (fun _ => ?_)
    obtain ⟨_, hn0, hn1⟩ := hHeld
    clear hK9 K9 hfz
    refine goes_done (by kernel_rfl) ?_ _
    obtain ⟨w9, hw9⟩ : ∃ w9, w8.setCell ⟨bw, 2, none⟩ (.slice (some ⟨g9, 0, none⟩) (ps.length + 1) cap2) = w9 := ⟨_, rfl⟩
    have HO9 := Lib.hid (HO8.out.trans (Oth.of_set w8 (S := Own bw g bm (.slice a3 ps.length cp3)) ⟨bw, 2, none⟩ (.slice (some ⟨g9, 0, none⟩) (ps.length + 1) cap2) (.inl rfl)) (fun _ _ h => h))
    have HX9 : Hid (w9.heap[N + 1]? = some (.cells #[.int .i64 f0, .int .i64 f1, .int .u8 b] 95 (0, 0))) := Lib.hid (by rw [← hw9, Below.heap_setCell _ _ _ _ (show N + 1 ≠ bw by omega)]; exact hx9.out)
    have HXP : Hid (w9.cell? ⟨N, 0, none⟩ = some (.int .i64 p0) ∧ w9.cell? ⟨N, 1, none⟩ = some (.int .i64 p1)) := Lib.hid (by
      have key : ∀ j, w9.cell? ⟨N, j, none⟩ = w8.cell? ⟨N, j, none⟩ := fun j => World.cell?_of_block (by rw [← hw9]; exact Below.heap_setCell _ _ _ _ (show N ≠ bw by omega))
      exact ⟨(key 0).trans hn0, (key 1).trans hn1⟩)
    rw [hw9] at HWP HO9
    rw [hw9]
    clear hw9 hx9 HO8 hn0 hn1
    have HWD := Lib.hid (HWP.out.below (Below.refl w9.heap.size w9).drew)
    have HOD := Lib.hid (HO9.out.trans (Oth.of_below (S := Own bw g bm (.slice a3 ps.length cp3)) (Below.refl w9.heap.size w9).drew) (fun _ _ h => h))
    obtain ⟨es, c, hput, hpm⟩ := put_pair HWD.out.map (p := (p0, p1)) (HNEW.out HXY.out) (sv (f0, f1) b)
    have hput : (Instr.mapUpdate 84 (.map (some bm)) (.agg #[.int .i64 p0, .int .i64 p1]) (.agg #[.int .i64 f0, .int .i64 f1, .int .u8 b])).run Try.prog w9.drew = .ok () (setMap w9.drew bm es c) := hput
    have HFIN := Lib.hid (HWD.out.entry hpm)
    have HO10 := Lib.hid (HOD.out.trans (Oth.of_map w9.drew (S := Own bw g bm (.slice a3 ps.length cp3)) bm es c (.inr (.inr (.inl rfl)))) (fun _ _ h => h))
    have e0 : w9.drew.cell? ⟨bw, 3, none⟩ = some (.map (some bm)) := (cell_of_row w9 bw 3 _ _ _ HWP.out.blk).trans rfl
    have e1 : w9.drew.cell? ⟨N, 0, none⟩ = some (.int .i64 p0) := HXP.out.1
    have e2 : w9.drew.cell? ⟨N, 1, none⟩ = some (.int .i64 p1) := HXP.out.2
    have e3 : w9.drew.cell? ⟨N + 1, 0, none⟩ = some (.int .i64 f0) := (cell_of_row w9 (N + 1) 0 _ _ _ HX9.out).trans rfl
    have e4 : w9.drew.cell? ⟨N + 1, 1, none⟩ = some (.int .i64 f1) := (cell_of_row w9 (N + 1) 1 _ _ _ HX9.out).trans rfl
    have e5 : w9.drew.cell? ⟨N + 1, 2, none⟩ = some (.int .u8 b) := (cell_of_row w9 (N + 1) 2 _ _ _ HX9.out).trans rfl
    clear hpm HWP HO9 HX9 HXP HWD HOD
    try go_upto_region 3 with fail
    refine region_goes 6 7 rfl (fun W => W.cell? ⟨bw, 3, none⟩ = some (.map (some bm)) ∧ W.cell? ⟨N, 0, none⟩ = some (.int .i64 p0) ∧ W.cell? ⟨N, 1, none⟩ = some (.int .i64 p1) ∧ W.cell? ⟨N + 1, 0, none⟩ = some (.int .i64 f0) ∧ W.cell? ⟨N + 1, 1, none⟩ = some (.int .i64 f1) ∧ W.cell? ⟨N + 1, 2, none⟩ = some (.int .u8 b)) mixed ⟨e0, e1, e2, e3, e4, e5⟩ (fun hHeld => ?_)
    clear e0 e1 e2 e3 e4 e5
    refine goes_take (i := 0) (v := ?gv7) rfl (by kernel_rfl) (by kernel_rfl) (by kernel_rfl) (by kernel_rfl) (fun _ _ _ h => h) (Or.inl ⟨by rfl, ?gy7⟩) (by assumption) ?gr7
    case gy7 => (intro W9 hW9; obtain ⟨k0, k1, k2, k3, k4, k5⟩ := hW9; first | (go_simp; done) | (go_simp; with_reducible rfl))
    simp only [Act.put, getElem_toArray, getElem_cons_succ, getElem_cons_zero, setIfInBounds_toArray, set_cons_zero, set_cons_succ]
    refine goes_take (i := 1) (v := ?gv8) rfl (by kernel_rfl) (by kernel_rfl) (by kernel_rfl) (by kernel_rfl) (fun _ _ _ h => h) (Or.inl ⟨by rfl, ?gy8⟩) (by assumption) ?gr8
    case gy8 => (intro W9 hW9; obtain ⟨k0, k1, k2, k3, k4, k5⟩ := hW9; first | (go_simp; done) | (go_simp; with_reducible rfl))
    simp only [Act.put, getElem_toArray, getElem_cons_succ, getElem_cons_zero, setIfInBounds_toArray, set_cons_zero, set_cons_succ]
    refine goes_take (i := 2) (v := ?gv9) rfl (by kernel_rfl) (by kernel_rfl) (by kernel_rfl) (by kernel_rfl) (fun _ _ _ h => h) (Or.inl ⟨by rfl, ?gy9⟩) (by assumption) ?gr9
    case gy9 => (intro W9 hW9; obtain ⟨k0, k1, k2, k3, k4, k5⟩ := hW9; first | (go_simp; done) | (go_simp; with_reducible rfl))
    simp only [Act.put, getElem_toArray, getElem_cons_succ, getElem_cons_zero, setIfInBounds_toArray, set_cons_zero, set_cons_succ]
    refine goes_take (i := 3) (v := ?gv10) rfl (by kernel_rfl) (by kernel_rfl) (by kernel_rfl) (by kernel_rfl) (fun _ _ _ h => h) (Or.inl ⟨by rfl, ?gy10⟩) (by assumption) ?gr10
    case gy10 => (intro W9 hW9; obtain ⟨k0, k1, k2, k3, k4, k5⟩ := hW9; first | (go_simp; done) | (go_simp; with_reducible rfl))
    simp only [Act.put, getElem_toArray, getElem_cons_succ, getElem_cons_zero, setIfInBounds_toArray, set_cons_zero, set_cons_succ]
    refine goes_take (i := 4) (v := ?gv11) rfl (by kernel_rfl) (by kernel_rfl) (by kernel_rfl) (by kernel_rfl) (fun _ _ _ h => h) (Or.inl ⟨by rfl, ?gy11⟩) (by assumption) ?gr11
    case gy11 => (intro W9 hW9; obtain ⟨k0, k1, k2, k3, k4, k5⟩ := hW9; first | (go_simp; done) | (go_simp; with_reducible rfl))
    simp only [Act.put, getElem_toArray, getElem_cons_succ, getElem_cons_zero, setIfInBounds_toArray, set_cons_zero, set_cons_succ]
    refine goes_take (i := 5) (v := ?gv12) rfl (by kernel_rfl) (by kernel_rfl) (by kernel_rfl) (by kernel_rfl) (fun _ _ _ h => h) (Or.inl ⟨by rfl, ?gy12⟩) (by assumption) ?gr12
    case gy12 => (intro W9 hW9; obtain ⟨k0, k1, k2, k3, k4, k5⟩ := hW9; first | (go_simp; done) | (go_simp; with_reducible rfl))
    simp only [Act.put, getElem_toArray, getElem_cons_succ, getElem_cons_zero, setIfInBounds_toArray, set_cons_zero, set_cons_succ]
    refine goes_one (i := 6) (by kernel_rfl) rfl (fun K9 hK9 => ?_)
    go_simp
    refine hK9.out _ _ (fun h => absurd rfl h) (fun _ => ?_)
    clear hK9 K9 hHeld
    refine goes_done (by kernel_rfl) ?_ _
    go_end0
    exact ⟨rfl, Lib.hid ⟨HO10.out, r', A', HU5.out, .inr ⟨HXY.out, _, HG9.out, HFIN.out⟩⟩⟩
end Go.Proofs.Ytamgldhnfcikbaa
set_option maxRecDepth 100000
namespace Go.Proofs.Ytamgldhnfcikbaa
open Go.RowKit

structure St (m n : List Sta) (w : World) (bw bs g cap bm B : Nat) (va vb vo : Value) (Q : List (List Nat)) (L : List ((Int × Int) × Value)) (A R r : Nat → Nat) (i b : Nat) : Prop where
  make ::
  ws : WS w bw bs g cap (m.length + n.length + 1) bm B va vb vo (Q.map (prT m n)) L A
  uf : UF r (m.length + n.length + 1) A R
  wk : Walk (prM m n) Q R i b
  keys : L.map (·.1) = Q.map (prT m n)
  nd : (Q.map (prT m n)).Nodup
  back : ∀ (v : List Nat) (c : Nat), v ++ [c] ∈ Q → (prT m n (v ++ [c]), sv (prT m n v) c) ∈ L
  few : heads (m.length + n.length + 1) R + Q.length ≤ m.length + n.length + 1
theorem St.paired {m n : List Sta} {w : World} {bw bs g cap bm B : Nat} {va vb vo : Value} {Q : List (List Nat)} {L : List ((Int × Int) × Value)} {A R r : Nat → Nat} {i b : Nat} (h : St m n w bw bs g cap bm B va vb vo Q L A R r i b) {u : List Nat} (hu : u ∈ Q) :
    R (prM m n u).1 = R (prM m n u).2 := by
  rw [h.wk.heads]
  exact joined_pair _ (List.mem_map_of_mem hu)
theorem St.fresh {m n : List Sta} {w : World} {bw bs g cap bm B : Nat} {va vb vo : Value} {Q : List (List Nat)} {L : List ((Int × Int) × Value)} {A R r : Nat → Nat} {i b : Nat} (h : St m n w bw bs g cap bm B va vb vo Q L A R r i b) {u : List Nat}
    (hne : R (prM m n u).1 ≠ R (prM m n u).2) : prT m n u ∉ Q.map (prT m n) := by
  intro hm
  obtain ⟨v, hv, e⟩ := List.mem_map.1 hm
  have := h.paired hv
  unfold prM at this hne
  rw [e] at this
  exact hne this
theorem St.new {m n : List Sta} {w : World} {bw bs g cap bm B : Nat} {va vb vo : Value} {Q : List (List Nat)} {L : List ((Int × Int) × Value)} {A R r : Nat → Nat} {i b : Nat} (h : St m n w bw bs g cap bm B va vb vo Q L A R r i b) {u : List Nat}
    (hne : R (prM m n u).1 ≠ R (prM m n u).2) : ∀ z ∈ L, z.1 ≠ prT m n u := by
  intro z hz e
  apply h.fresh hne
  rw [← h.keys, ← e]
  exact List.mem_map_of_mem hz
theorem St.len {m n : List Sta} {w : World} {bw bs g cap bm B : Nat} {va vb vo : Value} {Q : List (List Nat)} {L : List ((Int × Int) × Value)} {A R r : Nat → Nat} {i b : Nat} (h : St m n w bw bs g cap bm B va vb vo Q L A R r i b) :
    Q.length ≤ m.length + n.length + 1 := by have := h.few; omega
theorem St.below {m n : List Sta} {w w' : World} {bw bs g cap bm B : Nat} {va vb vo : Value} {Q : List (List Nat)} {L : List ((Int × Int) × Value)} {A R r : Nat → Nat} {i b : Nat} (h : St m n w bw bs g cap bm B va vb vo Q L A R r i b)
    (hb : Below w.heap.size w w') : St m n w' bw bs g cap bm B va vb vo Q L A R r i b := ⟨h.ws.below hb, h.uf, h.wk, h.keys, h.nd, h.back, h.few⟩
theorem St.step {m n : List Sta} (hm : ∀ s ∈ m, fitsB m.length s.arcs = true) (hn : ∀ s ∈ n, fitsB n.length s.arcs = true) {w w' : World} {bw bs g cap bm B : Nat} {va vb vo : Value} {Q : List (List Nat)} {L : List ((Int × Int) × Value)} {A R r : Nat → Nat} {i b : Nat}
    (h : St m n w bw bs g cap bm B va vb vo Q L A R r i b) (hb : b < 256) {v : List Nat} (hv : Q[i]? = some v)
    (hV : Visited w w' bw bs g cap (m.length + n.length + 1) bm B va vb vo (Q.map (prT m n)) L R (prM m n (v ++ [b])).1 (prM m n (v ++ [b])).2 (prT m n (v ++ [b])) (prT m n v) b) :
    Oth w w' (Own bw g bm vo) ∧ ∃ vo' Q' L' A' R' r', (vo'.ownBlock = vo.ownBlock ∨ ∃ q, vo'.ownBlock = some q ∧ w.heap.size ≤ q) ∧ (∀ (j : Nat) (x : List Nat), Q[j]? = some x → Q'[j]? = some x) ∧ St m n w' bw bs g cap bm B va vb vo' Q' L' A' R' r' i (b + 1) := by
  obtain ⟨hO, r', A', hu, hV⟩ := hV
  refine ⟨hO, ?_⟩
  rcases hV with ⟨he, hws⟩ | ⟨hne, vo', hvo, hws⟩
  · rw [joinR_same he] at hu
    exact ⟨vo, Q, L, A', R, r', .inl rfl, fun _ _ h => h, hws, hu, h.wk.skip hv he, h.keys, h.nd, h.back, h.few⟩
  · have hlt := (List.getElem?_eq_some_iff.1 hv).1
    have hx := mk_lt (run_at hm (v ++ [b])) n.length
    have hy := mk_lt1 (run_at hn (v ++ [b])) m.length
    refine ⟨vo', Q ++ [v ++ [b]], L ++ [(prT m n (v ++ [b]), sv (prT m n v) b)], A', _, r', hvo, ?_, ?_, hu, h.wk.push hb hv, ?_, ?_, ?_, ?_⟩
    · intro j x hj
      rw [List.getElem?_append_left (List.getElem?_eq_some_iff.1 hj).1]; exact hj
    · rw [List.map_append, List.map_singleton]; exact hws
    · rw [List.map_append, List.map_append, h.keys]; rfl
    · rw [List.map_append, List.nodup_append]
      refine ⟨h.nd, by simp, ?_⟩
      intro p hp q hq
      simp only [List.map_cons, List.map_nil, List.mem_singleton] at hq
      subst hq
      intro e
      subst e
      exact h.fresh hne hp
    · intro u c huc
      rcases List.mem_append.1 huc with h1 | h1
      · exact List.mem_append_left _ (h.back u c h1)
      · rw [List.mem_singleton] at h1
        obtain ⟨rfl, e⟩ := List.append_inj' h1 rfl
        cases e
        exact List.mem_append_right _ (by simp)
    · have := join_heads h.uf (show (prM m n (v ++ [b])).1 < m.length + n.length + 1 from hx) (show (prM m n (v ++ [b])).2 < m.length + n.length + 1 from hy) hne
      have := h.few
      rw [List.length_append, List.length_singleton]
      omega
theorem St.next {m n : List Sta} {w : World} {bw bs g cap bm B : Nat} {va vb vo : Value} {Q : List (List Nat)} {L : List ((Int × Int) × Value)} {A R r : Nat → Nat} {i : Nat} (h : St m n w bw bs g cap bm B va vb vo Q L A R r i 256) : St m n w bw bs g cap bm B va vb vo Q L A R r (i + 1) 0 :=
  ⟨h.ws, h.uf, h.wk.next, h.keys, h.nd, h.back, h.few⟩
theorem St.first {m n : List Sta} (hm : ∀ s ∈ m, fitsB m.length s.arcs = true) (hn : ∀ s ∈ n, fitsB n.length s.arcs = true) {w w' : World} {bw bs g cap bm B : Nat} {va vb vo : Value}
    (hV : Visited w w' bw bs g cap (m.length + n.length + 1) bm B va vb vo [] [] (fun i => i) (prM m n []).1 (prM m n []).2 (prT m n []) (0, 0) 0) (h0 : 0 < m.length + n.length) :
    Oth w w' (Own bw g bm vo) ∧ ∃ vo' L' A' R' r', (vo'.ownBlock = vo.ownBlock ∨ ∃ q, vo'.ownBlock = some q ∧ w.heap.size ≤ q) ∧ St m n w' bw bs g cap bm B va vb vo' [[]] L' A' R' r' 0 0 := by
  obtain ⟨hO, r', A', hu, hV⟩ := hV
  refine ⟨hO, ?_⟩
  have hx := mk_lt (run_at hm []) n.length
  have hy := mk_lt1 (run_at hn []) m.length
  rcases hV with ⟨he, hws⟩ | ⟨hne, vo', hvo, hws⟩
  · exfalso
    have he : mk m.length 0 (startS m) = mk m.length 1 (startS n) := he
    unfold startS at he
    by_cases h1 : m.length = 0
    · by_cases h2 : n.length = 0
      · omega
      · rw [if_pos h1, if_neg h2, mk_none, show (0 : Int) = ((0 : Nat) : Int) from rfl, mk_some] at he
        omega
    · by_cases h2 : n.length = 0
      · rw [if_neg h1, if_pos h2, mk_none, show (0 : Int) = ((0 : Nat) : Int) from rfl, mk_some] at he
        omega
      · rw [if_neg h1, if_neg h2, show (0 : Int) = ((0 : Nat) : Int) from rfl, mk_some, mk_some] at he
        omega
  · refine ⟨vo', [(prT m n [], sv (0, 0) 0)], A', _, r', hvo, hws, hu, Walk.start _, rfl, by simp, ?_, ?_⟩
    · intro v c hvc
      simp at hvc
    · have hj := join_heads (UF.alone (m.length + n.length + 1)) (x := (prM m n []).1) (y := (prM m n []).2) hx hy hne
      rw [heads_alone] at hj
      simp only [List.length_singleton]
      omega
end Go.Proofs.Ytamgldhnfcikbaa
