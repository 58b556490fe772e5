/- Texts that a proof rests on: Contract of pattern.operatorsByTimes; what its map holds. | Contract of pattern.operatorsByTimes. -/
import Derived.Test.YtkpfpegjapddfaaGreatDoorK21
import Derived.Maps.RangeRun
import Derived.Laws.StructEq
import Derived.WideKeyRuns
set_option maxRecDepth 20000
namespace Go.Proofs.YtkpfpegjapddfaaGreatDoor
open Go.RowKit

/-- The operators' pairs and bytes. -/
def pairOf : Nat → Int × Int
  | 0 => (0, -1)
  | 1 => (1, -1)
  | _ => (0, 1)
def byteOf : Nat → Int
  | 0 => 42
  | 1 => 43
  | _ => 63
theorem pairOf_inj {i j : Nat} (hi : i < 3) (hj : j < 3) (h : pairOf i = pairOf j) : i = j := by
  rcases i with _ | _ | _ | i <;> rcases j with _ | _ | _ | j <;> simp [pairOf] at h ⊢ <;> omega
/-- The entries es are the operators L. -/
def TMap (es : List MapEntry) (L : List Nat) : Prop := es.map (fun e => (e.key, e.val)) = L.map (fun i => (tv (pairOf i).1 (pairOf i).2, Value.int .u8 (byteOf i)))
theorem TMap.push {es : Array MapEntry} {seen : Array Nat} (h : TMap es.toList seen.toList) (i c : Nat) : TMap (es.push { key := tv (pairOf i).1 (pairOf i).2, val := .int .u8 (byteOf i), born := c }).toList (seen.push i).toList := by
  unfold TMap at *
  simp [h]
theorem part_tv_0 (a b : Int) (w : World) : (part 3 #[.int .i64 a, .int .i64 b] 0).run Tryz.prog w = .ok (.int .i64 a) w := by kernel_rfl
theorem part_tv_1 (a b : Int) (w : World) : (part 3 #[.int .i64 a, .int .i64 b] 1).run Tryz.prog w = .ok (.int .i64 b) w := by kernel_rfl
theorem fields_times : (Tryz.prog.fieldsOf 74).toList.map (fun f => (decide (f.name = "_"), f.type, f.offset)) = [(false, 3, 0), (false, 3, 1)] := by kernel_rfl
theorem eq_times (a b c d : Int) (w : World) : (Op.equalIn 10000 74 (tv a b) (tv c d)).run Tryz.prog w = .ok (a == c && b == d) w := by
  rw [show (10000 : Nat) = 9999 + 1 from rfl, run_equalIn_struct w 9999 _ _ _ (by kernel_rfl) (by kernel_rfl)]
  have hf := fields_times
  generalize (Tryz.prog.fieldsOf 74).toList = fs at hf ⊢
  rcases fs with _ | ⟨f0, _ | ⟨f1, _ | ⟨f2, fs⟩⟩⟩
  · simp at hf
  · simp at hf
  · simp only [List.map_cons, List.map_nil, List.cons.injEq, Prod.mk.injEq, and_true, decide_eq_false_iff_not] at hf
    obtain ⟨⟨n0, t0, o0⟩, n1, t1, o1⟩ := hf
    have hi : Tryz.prog.underlying 3 = some (.int .i64) := Tryz.underlying3
    have ha : (Op.equalIn 9999 3 (.int .i64 a) (.int .i64 c)).run Tryz.prog w = .ok (a == c) w := run_equalIn_int w 9998 _ _ _ _ _ hi
    have hb : (Op.equalIn 9999 3 (.int .i64 b) (.int .i64 d)).run Tryz.prog w = .ok (b == d) w := run_equalIn_int w 9998 _ _ _ _ _ hi
    simp only [Op.eqFields, t0, o0, t1, o1]
    rw [if_pos n0, if_pos n1]
    simp only [Sem.run_bind, part_tv_0, Result.andThen_ok, ha]
    cases a == c
    · simp
    · simp only [Bool.not_true, Bool.false_eq_true, if_false, Sem.run_bind, part_tv_1, hb, Result.andThen_ok, Bool.true_and]
      cases b == d <;> simp
  · simp at hf
theorem check_times (em : Bool) (a b : Int) (w : World) : (Instr.checkKey em 10000 74 (tv a b)).run Tryz.prog w = .ok () w := by kernel_rfl
theorem find_times (a b : Int) (w : World) : ∀ (es : List MapEntry) (L : List Nat) (i : Nat), TMap es L → (∀ j ∈ L, j < 3) →
    (((∀ j ∈ L, pairOf j ≠ (a, b)) → (Instr.findAsking 74 (tv a b) es i).run Tryz.prog w = .ok none w) ∧
     (∀ j ∈ L, pairOf j = (a, b) → ∃ n, (Instr.findAsking 74 (tv a b) es i).run Tryz.prog w = .ok (some (n, .int .u8 (byteOf j))) w))
  | [], L, i, h, _ => by
    have hL : L = [] := by
      unfold TMap at h
      exact List.eq_nil_of_map_eq_nil h.symm
    subst hL
    exact ⟨fun _ => rfl, fun j hj => by simp at hj⟩
  | e :: es, L, i, h, h3 => by
    rcases L with _ | ⟨k, L⟩
    · simp [TMap] at h
    · simp only [TMap, List.map_cons, List.cons.injEq, Prod.mk.injEq] at h
      obtain ⟨⟨hk, hv⟩, ht⟩ := h
      have ih := find_times a b w es L (i + 1) ht (fun j hj => h3 j (List.mem_cons_of_mem _ hj))
      have he : (Op.equal 74 (tv a b) e.key).run Tryz.prog w = .ok (a == (pairOf k).1 && b == (pairOf k).2) w := by
        rw [hk]
        exact eq_times a b _ _ w
      by_cases hq : pairOf k = (a, b)
      · have hb : (a == (pairOf k).1 && b == (pairOf k).2) = true := by rw [hq]; simp
        rw [hb] at he
        refine ⟨fun hn => absurd hq (hn k (by simp)), fun j hj hj2 => ?_⟩
        have hjk : j = k := pairOf_inj (h3 j hj) (h3 k (by simp)) (hj2.trans hq.symm)
        subst hjk
        exact ⟨i, by simp [Instr.findAsking, he, hv]⟩
      · have hb : (a == (pairOf k).1 && b == (pairOf k).2) = false := by
          rw [Bool.eq_false_iff]
          intro h
          simp only [Bool.and_eq_true, beq_iff_eq] at h
          exact hq (Prod.ext h.1.symm h.2.symm)
        rw [hb] at he
        have hrun : (Instr.findAsking 74 (tv a b) (e :: es) i).run Tryz.prog w = (Instr.findAsking 74 (tv a b) es (i + 1)).run Tryz.prog w := by
          simp [Instr.findAsking, he]
        rw [hrun]
        refine ⟨fun hn => ih.1 (fun j hj => hn j (List.mem_cons_of_mem _ hj)), fun j hj hj2 => ?_⟩
        rcases List.mem_cons.1 hj with rfl | hj
        · exact absurd hj2 hq
        · exact ih.2 j hj hj2
/-- The map of operators by what they stand for lies in block g. -/
def OpsT (w : World) (g : Nat) : Prop := ∃ (es : Array MapEntry) (c : Nat) (L : List Nat), w.heap[g]? = some (.map es c) ∧ TMap es.toList L ∧ (∀ j ∈ L, j < 3) ∧ (∀ j, j < 3 → j ∈ L)
/-- The byte of an operator. -/
def opT (a b : Int) : Option Int := if a = 0 ∧ b = -1 then some 42 else if a = 1 ∧ b = -1 then some 43 else if a = 0 ∧ b = 1 then some 63 else none
theorem findKey_times (a b : Int) (es : List MapEntry) (w : World) : (Instr.findKey 74 (tv a b) es).run Tryz.prog w = (Instr.findAsking 74 (tv a b) es).run Tryz.prog w :=
  run_findKey_eq w (by kernel_rfl) _ _
theorem look_times {w : World} {g : Nat} (h : OpsT w g) (a b : Int) : (Instr.lookup 45 (.map (some g)) (tv a b) true).run Tryz.prog w = .ok (.tuple #[.int .u8 ((opT a b).getD 0), .bool (opT a b).isSome]) w := by
  obtain ⟨es, c, L, hb, ht, h3, hall⟩ := h
  have hz : (zeroValue 5).run Tryz.prog w = .ok (.int .u8 0) w := by kernel_rfl
  have hf := find_times a b w es.toList L 0 ht h3
  have hc := check_times es.isEmpty a b w
  have hyes : ∀ j, j < 3 → pairOf j = (a, b) → opT a b = some (byteOf j) → (Instr.lookup 45 (.map (some g)) (tv a b) true).run Tryz.prog w = .ok (.tuple #[.int .u8 ((opT a b).getD 0), .bool (opT a b).isSome]) w := by
    intro j hj hp ho
    obtain ⟨n, hn⟩ := hf.2 j (hall j hj) hp
    rw [ho]
    simp [Instr.lookup, run_underlying Tryz.underlying45, MapKept.run_getObj_map hb, hc, findKey_times, hn, Result.andThen]
  by_cases h0 : a = 0 ∧ b = -1
  · exact hyes 0 (by omega) (by rw [h0.1, h0.2]; rfl) (by unfold opT; rw [if_pos h0]; rfl)
  by_cases h1 : a = 1 ∧ b = -1
  · exact hyes 1 (by omega) (by rw [h1.1, h1.2]; rfl) (by unfold opT; rw [if_neg h0, if_pos h1]; rfl)
  by_cases h2 : a = 0 ∧ b = 1
  · exact hyes 2 (by omega) (by rw [h2.1, h2.2]; rfl) (by unfold opT; rw [if_neg h0, if_neg h1, if_pos h2]; rfl)
  · have ho : opT a b = none := by unfold opT; rw [if_neg h0, if_neg h1, if_neg h2]
    have hn := hf.1 (by
      intro j hj he
      have hj3 := h3 j hj
      rcases j with _ | _ | _ | j
      · simp only [pairOf, Prod.mk.injEq] at he; omega
      · simp only [pairOf, Prod.mk.injEq] at he; omega
      · simp only [pairOf, Prod.mk.injEq] at he; omega
      · omega)
    rw [ho]
    simp [Instr.lookup, run_underlying Tryz.underlying45, MapKept.run_getObj_map hb, hc, findKey_times, hn, hz, Result.andThen]
theorem put_times {w : World} {r c : Nat} {es : Array MapEntry} {L : List Nat} (i : Nat) (v : Value) (hb : w.heap[r]? = some (.map es c)) (ht : TMap es.toList L) (h3 : ∀ j ∈ L, j < 3) (hi : i < 3) (hni : i ∉ L) :
    (Instr.mapUpdate 45 (.map (some r)) (tv (pairOf i).1 (pairOf i).2) v).run Tryz.prog w = .ok () (setMap w r (es.push { key := tv (pairOf i).1 (pairOf i).2, val := v, born := c }) (c + 1)) := by
  have hf := (find_times (pairOf i).1 (pairOf i).2 w es.toList L 0 ht h3).1 (fun j hj he => hni (by rw [← pairOf_inj (h3 j hj) hi (by rw [he])]; exact hj))
  simp [Instr.mapUpdate, run_underlying Tryz.underlying45, MapKept.run_getObj_map hb, check_times, findKey_times, hf, MapKept.run_setObj_map _ hb, Result.andThen, setMap]
end Go.Proofs.YtkpfpegjapddfaaGreatDoor
set_option maxRecDepth 20000
namespace Go.Proofs.YtkpfpegjapddfaaGreatDoor
open Go.RowKit

theorem opsMap_mem {e : MapEntry} (h : e ∈ opsMap.toList) : e.born < 3 ∧ e.key = .int .u8 (byteOf e.born) ∧ e.val = tv (pairOf e.born).1 (pairOf e.born).2 := by
  simp only [opsMap, List.mem_cons, List.not_mem_nil, or_false] at h
  rcases h with rfl | rfl | rfl
  · exact ⟨by decide, rfl, rfl⟩
  · exact ⟨by decide, rfl, rfl⟩
  · exact ⟨by decide, rfl, rfl⟩
theorem opsMap_all {j : Nat} (hj : j < 3) : ∃ e ∈ opsMap.toList, e.born = j := by
  rcases j with _ | _ | _ | j
  · exact ⟨_, List.mem_cons_self, rfl⟩
  · exact ⟨_, List.mem_cons_of_mem _ List.mem_cons_self, rfl⟩
  · exact ⟨_, List.mem_cons_of_mem _ (List.mem_cons_of_mem _ List.mem_cons_self), rfl⟩
  · omega
theorem left_none {seen : Array Nat} (h : (leftOf opsMap seen).size = 0) : ∀ j, j < 3 → j ∈ seen.toList := by
  intro j hj
  obtain ⟨e, he, rfl⟩ := opsMap_all hj
  by_cases hc : seen.contains e.born = true
  · simpa using hc
  · have hm : e ∈ leftOf opsMap seen := Array.mem_filter.2 ⟨Array.mem_toList_iff.1 he, by simpa using hc⟩
    have := Array.size_pos_of_mem hm
    omega
/-- What holds ahead of each round. -/
def ByRel (w : World) (n g0 r : Nat) (wr : World) : Prop := ∃ (seen : Array Nat) (c0 : Nat) (es : Array MapEntry) (c : Nat), wr.heap[r]? = some (.mapIter (some g0) 3 seen c0) ∧ 3 ≤ c0 ∧ wr.heap[g0]? = some (.map opsMap 3) ∧ wr.heap[n]? = some (.map es c) ∧ TMap es.toList seen.toList ∧ (∀ j ∈ seen.toList, j < 3) ∧ Below n w wr
theorem iterSeen_at {w : World} {r : Nat} {a : Option Nat} {b c : Nat} {s : Array Nat} (h : w.heap[r]? = some (.mapIter a b s c)) : w.iterSeen r = s := by
  unfold World.iterSeen
  rw [h]
theorem setBlock_at {w : World} {b : Nat} {o o' : Obj} (h : w.heap[b]? = some o) : (ChangeMaps.setBlock w b o').heap[b]? = some o' := by
  have hl := lt_of_block h
  simp [ChangeMaps.setBlock, hl]
theorem setBlock_other {w : World} {b k : Nat} {o' : Obj} (h : k ≠ b) : (ChangeMaps.setBlock w b o').heap[k]? = w.heap[k]? := by
  simp only [ChangeMaps.setBlock, Array.getElem?_setIfInBounds]
  rw [if_neg (fun e => h e.symm)]
theorem setBlock_below {n b : Nat} {w0 w : World} (h : Below n w0 w) (hb : n ≤ b) (o : Obj) : Below n w0 (ChangeMaps.setBlock w b o) :=
  ⟨h.os, h.tape, h.output, by simp [ChangeMaps.setBlock]; exact h.size, fun k hk => (setBlock_other (by omega)).trans (h.block k hk)⟩
theorem setMap_other {w : World} {b k c : Nat} {es : Array MapEntry} (h : k ≠ b) : (setMap w b es c).heap[k]? = w.heap[k]? := by
  simp only [setMap, Array.getElem?_setIfInBounds]
  rw [if_neg (fun e => h e.symm)]
theorem setMap_belowN {n b : Nat} {w0 w : World} (h : Below n w0 w) (hb : n ≤ b) (es : Array MapEntry) (c : Nat) : Below n w0 (setMap w b es c) :=
  ⟨h.os, h.tape, h.output, by simp [setMap]; exact h.size, fun k hk => (setMap_other (by omega)).trans (h.block k hk)⟩
set_option maxHeartbeats 2000000 in
theorem byTimes_any (w : World) :
    Calls Tryz.prog 20 #[] w fun e w' => e = .returned (.map (some w.heap.size)) ∧ OpsT w' w.heap.size ∧ Below w.heap.size w w' := by
  have hmm := run_makeMap (P := Tryz.prog) 45 w
  have bm : (w.alloc (.map #[] 0)).heap[w.heap.size]? = some (.map #[] 0) := heap_alloc_new w _
  have hb0 : Below w.heap.size w (w.alloc (.map #[] 0)) := (Below.refl _ _).alloc (Nat.le_refl _) _
  have hsz : (w.alloc (.map #[] 0)).heap.size = w.heap.size + 1 := by simp
  go_enter Tryz.func20, Tryz.ntmps20
  go_wp2_with fail
  obtain ⟨w0, hw0⟩ : ∃ z, w.alloc (.map #[] 0) = z := ⟨_, rfl⟩
  rw [hw0] at bm hb0 hsz ⊢
  clear hw0 hmm
  generalize hn : w.heap.size = n at *
  go_wp2_with (go_at_call 41; refine (operators_any _).mono ?_; rintro e w1 ⟨rfl, hg0, hb1⟩; rw [hsz] at hg0; have hrg := run_range_map (P := Tryz.prog) w1 71 _ _ (n + 1) opsMap 3 Tryz.underlying71 hg0)
  have hbn : w1.heap[n]? = some (.map #[] 0) := (hb1.block n (by omega)).trans bm
  have z1 := hb1.size
  have hr0 : (w1.alloc (.mapIter (some (n + 1)) 3 #[] 3)).heap[w1.heap.size]? = some (.mapIter (some (n + 1)) 3 #[] 3) := heap_alloc_new w1 _
  have hbl : Below n w (w1.alloc (.mapIter (some (n + 1)) 3 #[] 3)) := (hb0.trans (hb1.mono (by omega))).alloc (by omega) _
  have hrel0 : ByRel w n (n + 1) w1.heap.size (w1.alloc (.mapIter (some (n + 1)) 3 #[] 3)) :=
    ⟨#[], 3, #[], 0, hr0, by omega, (heap_alloc_old w1 _ (lt_of_block hg0)).trans hg0, (heap_alloc_old w1 _ (lt_of_block hbn)).trans hbn, rfl, by simp, hbl⟩
  have hrn : n + 1 < w1.heap.size := lt_of_block hg0
  clear hb1 hg0 hrg hbn hr0 hbl z1 bm hb0 hsz
  obtain ⟨r, hrr⟩ : ∃ z, w1.heap.size = z := ⟨_, rfl⟩
  rw [hrr] at hrn hrel0 ⊢
  generalize w1.alloc (.mapIter (some (n + 1)) 3 #[] 3) = w5 at *
  clear hrr
  go_loopw [] (fun wr => ByRel w n (n + 1) r wr) (fun wr => (leftOf opsMap (wr.iterSeen r)).size)
  case atStart => exact hrel0
  case round =>
    obtain ⟨seen, c0, es, c, hr, hc0, hg, hm, ht, h3, hbw⟩ := hrel
    rcases run_next_at (P := Tryz.prog) wr 0 r (n + 1) 3 c0 seen opsMap 3 hr hg (by decide) hc0 with ⟨h0, hnx⟩ | ⟨e, he, w2, hw2, hnx⟩
    · go_wp2
      go_ret
      rw [hn]
      exact ⟨rfl, ⟨es, c, seen.toList, hm, ht, h3, left_none h0⟩, hbw⟩
    · obtain ⟨hee, hns⟩ := mem_left he
      obtain ⟨hi3, hk, hv⟩ := opsMap_mem hee
      have hsh := left_shrinks opsMap seen e he
      have hseen := iterSeen_at hr
      have hh2 : w2.heap = wr.heap := by rcases hw2 with rfl | rfl <;> rfl
      have hr2 : w2.heap[r]? = some (.mapIter (some (n + 1)) 3 seen c0) := by rw [hh2]; exact hr
      have hr3 : (ChangeMaps.setBlock w2 r (.mapIter (some (n + 1)) 3 (seen.push e.born) 3)).heap[r]? = some (.mapIter (some (n + 1)) 3 (seen.push e.born) 3) := setBlock_at hr2
      have hg3 : (ChangeMaps.setBlock w2 r (.mapIter (some (n + 1)) 3 (seen.push e.born) 3)).heap[n + 1]? = some (.map opsMap 3) := (setBlock_other (by omega)).trans (by rw [hh2]; exact hg)
      have hm3 : (ChangeMaps.setBlock w2 r (.mapIter (some (n + 1)) 3 (seen.push e.born) 3)).heap[n]? = some (.map es c) := (setBlock_other (by omega)).trans (by rw [hh2]; exact hm)
      have hb2 : Below n w w2 := by rcases hw2 with rfl | rfl; exact hbw; exact hbw.drew
      have hb3 : Below n w (ChangeMaps.setBlock w2 r (.mapIter (some (n + 1)) 3 (seen.push e.born) 3)) := setBlock_below hb2 (by omega) _
      generalize ChangeMaps.setBlock w2 r (.mapIter (some (n + 1)) 3 (seen.push e.born) 3) = W at *
      have hen := run_entry_at (P := Tryz.prog) W r (n + 1) 3 seen opsMap 3 e hr3 hg3 hee (by decide)
      rw [hk, hv] at hnx hen
      have hni : e.born ∉ seen.toList := by
        intro h
        simp at h
        simp [h] at hns
      generalize e.born = i at *
      have hm4 : (W.alloc (.cells #[.int .i64 (pairOf i).1, .int .i64 (pairOf i).2] 74)).heap[n]? = some (.map es c) := (heap_alloc_old W _ (lt_of_block hm3)).trans hm3
      have hput := put_times i (.int .u8 (byteOf i)) hm4 ht h3 hi3 hni
      have ht5 := ht.push i c
      have hm5 := setMap_new _ _ _ (es.push { key := tv (pairOf i).1 (pairOf i).2, val := .int .u8 (byteOf i), born := c }) _ (c + 1) hm4
      clear hk hv hns he hh2 hr2 hr hg hm hw2
      go_wp2
      have hr6 := (setMap_other (b := n) (c := c + 1) (es := es.push { key := tv (pairOf i).1 (pairOf i).2, val := .int .u8 (byteOf i), born := c }) (by omega)).trans ((heap_alloc_old W (.cells #[.int .i64 (pairOf i).1, .int .i64 (pairOf i).2] 74) (lt_of_block hr3)).trans hr3)
      refine ⟨⟨seen.push i, 3, _, c + 1, hr6, by omega, (setMap_other (by omega)).trans ((heap_alloc_old W _ (lt_of_block hg3)).trans hg3), hm5, ht5, ?_, setMap_belowN (hb3.alloc (Nat.le_of_lt (lt_of_block hm3)) _) (Nat.le_refl _) _ _⟩, ?_⟩
      · intro j hj
        rw [Array.toList_push] at hj
        rcases List.mem_append.1 hj with hj | hj
        · exact h3 j hj
        · rw [List.mem_singleton.1 hj]
          exact hi3
      · rw [iterSeen_at hr6, hseen]
        exact hsh
end Go.Proofs.YtkpfpegjapddfaaGreatDoor
