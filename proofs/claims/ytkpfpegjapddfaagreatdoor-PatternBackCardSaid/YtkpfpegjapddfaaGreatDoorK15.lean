/- Texts that a proof rests on: Contract of pattern.operators; what its map holds. | Contracts of pattern's parser: what stands behind an atom. | Contract of pattern's parser: the numbers of an ending. | Contract of pattern's parser: an ending. | Contract of pattern's parser: a part of a class. -/
import Derived.Test.YtkpfpegjapddfaaGreatDoorK14
import Derived.MapKept
import Derived.Carry
import Derived.Test.YtkpfpegjapddfaaGreatDoorK05
set_option maxRecDepth 20000
namespace Go.Proofs.YtkpfpegjapddfaaGreatDoor
open Go.RowKit

/-- A map's block, set. -/
def setMap (w : World) (r : Nat) (es : Array MapEntry) (c : Nat) : World := { w with heap := w.heap.setIfInBounds r (.map es c) }
theorem setMap_new (w : World) (r : Nat) (es es' : Array MapEntry) (c c' : Nat) (h : w.heap[r]? = some (.map es c)) : (setMap w r es' c').heap[r]? = some (.map es' c') := by
  have hl := lt_of_block h
  simp [setMap, hl]
theorem setMap_below {w0 w : World} {r : Nat} (es : Array MapEntry) (c : Nat) (h : Below w0.heap.size w0 w) (hr : w0.heap.size ≤ r) : Below w0.heap.size w0 (setMap w r es c) :=
  ⟨h.os, h.tape, h.output, by simp [setMap]; exact h.size, fun k hk => by
    have hne : r ≠ k := by omega
    have := h.block k hk
    simp only [setMap, Array.getElem?_setIfInBounds]
    rw [if_neg hne]
    exact this⟩
theorem put_new {w : World} {t k e : TypeId} {d : TypeDesc} {r c : Nat} {es : Array MapEntry} {key val : Value} (hm : Tryz.prog.underlying t = some (.map k e)) (hk : Tryz.prog.underlying k = some d) (hi : MapKept.IsKey d key)
    (hb : w.heap[r]? = some (.map es c)) (hf : Instr.findNow d key es.toList 0 = some none) : (Instr.mapUpdate t (.map (some r)) key val).run Tryz.prog w = .ok () (setMap w r (es.push { key := key, val := val, born := c }) (c + 1)) := by
  simp [Instr.mapUpdate, run_underlying hm, MapKept.run_getObj_map hb, MapKept.run_checkKey hk hi, MapKept.run_findKey hk hf, MapKept.run_setObj_map _ hb, Result.andThen, setMap]
abbrev tv (a b : Int) : Value := .agg #[.int .i64 a, .int .i64 b]
def opsMap : Array MapEntry := #[{ key := .int .u8 42, val := tv 0 (-1), born := 0 }, { key := .int .u8 43, val := tv 1 (-1), born := 1 }, { key := .int .u8 63, val := tv 0 1, born := 2 }]
/-- What a byte means that stands behind. -/
def opB (b : Nat) : Option (Int × Int) := if b = 42 then some (0, -1) else if b = 43 then some (1, -1) else if b = 63 then some (0, 1) else none
theorem look_ops {w : World} {g c : Nat} (hb : w.heap[g]? = some (.map opsMap c)) (b : Nat) : (Instr.lookup 71 (.map (some g)) (.int .u8 b) true).run Tryz.prog w = .ok (.tuple #[(match opB b with | some p => tv p.1 p.2 | none => tv 0 0), .bool (opB b).isSome]) w := by
  have hk : Tryz.prog.underlying 5 = some (.int .u8) := Tryz.underlying5
  have hz : (zeroValue 74).run Tryz.prog w = .ok (tv 0 0) w := by kernel_rfl
  have hc : ∀ x : Int, (Instr.checkKey opsMap.isEmpty 10000 5 (.int .u8 x)).run Tryz.prog w = .ok () w := fun x => MapKept.run_checkKey (k := .int .u8 x) hk rfl _ _
  have hn : ∀ x : Int, x ≠ b → ((b : Int) == x) = false := fun x h => by rw [beq_eq_false_iff_ne]; exact fun e => h e.symm
  by_cases h1 : b = 42
  · subst h1
    have hf : Instr.findNow (.int .u8) (.int .u8 42) opsMap.toList 0 = some (some (0, tv 0 (-1))) := rfl
    simp [Instr.lookup, run_underlying Tryz.underlying71, MapKept.run_getObj_map hb, hc, MapKept.run_findKey hk hf, Result.andThen, opB]
  by_cases h2 : b = 43
  · subst h2
    have hf : Instr.findNow (.int .u8) (.int .u8 43) opsMap.toList 0 = some (some (1, tv 1 (-1))) := rfl
    simp [Instr.lookup, run_underlying Tryz.underlying71, MapKept.run_getObj_map hb, hc, MapKept.run_findKey hk hf, Result.andThen, opB]
  by_cases h3 : b = 63
  · subst h3
    have hf : Instr.findNow (.int .u8) (.int .u8 63) opsMap.toList 0 = some (some (2, tv 0 1)) := rfl
    simp [Instr.lookup, run_underlying Tryz.underlying71, MapKept.run_getObj_map hb, hc, MapKept.run_findKey hk hf, Result.andThen, opB]
  · have hf : Instr.findNow (.int .u8) (.int .u8 b) opsMap.toList 0 = some none := by
      simp [opsMap, Instr.findNow, Instr.sameNow, hn 42 (by omega), hn 43 (by omega), hn 63 (by omega)]
    simp [Instr.lookup, run_underlying Tryz.underlying71, MapKept.run_getObj_map hb, hc, MapKept.run_findKey hk hf, Result.andThen, opB, h1, h2, h3, hz]
set_option maxHeartbeats 1000000 in
theorem operators_any (w : World) :
    Calls Tryz.prog 41 #[] w fun e w' => e = .returned (.map (some w.heap.size)) ∧ w'.heap[w.heap.size]? = some (.map opsMap 3) ∧ Below w.heap.size w w' := by
  have hmm := run_makeMap (P := Tryz.prog) 71 w
  have b0 : (w.alloc (.map #[] 0)).heap[w.heap.size]? = some (.map #[] 0) := heap_alloc_new w _
  have hm := Tryz.underlying71
  have hk : Tryz.prog.underlying 5 = some (.int .u8) := Tryz.underlying5
  have u1 : (Instr.mapUpdate 71 (.map (some w.heap.size)) (.int .u8 42) (.agg #[.int .i64 0, .int .i64 (-1)])).run Tryz.prog (w.alloc (.map #[] 0)) = .ok () (setMap (w.alloc (.map #[] 0)) w.heap.size #[{ key := .int .u8 42, val := (.agg #[.int .i64 0, .int .i64 (-1)]), born := 0 }] 1) := put_new (key := .int .u8 42) (val := (.agg #[.int .i64 0, .int .i64 (-1)])) hm hk rfl b0 rfl
  have b1 : (setMap (w.alloc (.map #[] 0)) w.heap.size #[{ key := .int .u8 42, val := (.agg #[.int .i64 0, .int .i64 (-1)]), born := 0 }] 1).heap[w.heap.size]? = some (.map #[{ key := .int .u8 42, val := (.agg #[.int .i64 0, .int .i64 (-1)]), born := 0 }] 1) := setMap_new _ _ _ _ _ _ b0
  have u2 : (Instr.mapUpdate 71 (.map (some w.heap.size)) (.int .u8 43) (.agg #[.int .i64 1, .int .i64 (-1)])).run Tryz.prog (setMap (w.alloc (.map #[] 0)) w.heap.size #[{ key := .int .u8 42, val := (.agg #[.int .i64 0, .int .i64 (-1)]), born := 0 }] 1) = .ok () (setMap (setMap (w.alloc (.map #[] 0)) w.heap.size #[{ key := .int .u8 42, val := (.agg #[.int .i64 0, .int .i64 (-1)]), born := 0 }] 1) w.heap.size #[{ key := .int .u8 42, val := (.agg #[.int .i64 0, .int .i64 (-1)]), born := 0 }, { key := .int .u8 43, val := (.agg #[.int .i64 1, .int .i64 (-1)]), born := 1 }] 2) := put_new (key := .int .u8 43) (val := (.agg #[.int .i64 1, .int .i64 (-1)])) hm hk rfl b1 rfl
  have b2 : (setMap (setMap (w.alloc (.map #[] 0)) w.heap.size #[{ key := .int .u8 42, val := (.agg #[.int .i64 0, .int .i64 (-1)]), born := 0 }] 1) w.heap.size #[{ key := .int .u8 42, val := (.agg #[.int .i64 0, .int .i64 (-1)]), born := 0 }, { key := .int .u8 43, val := (.agg #[.int .i64 1, .int .i64 (-1)]), born := 1 }] 2).heap[w.heap.size]? = some (.map #[{ key := .int .u8 42, val := (.agg #[.int .i64 0, .int .i64 (-1)]), born := 0 }, { key := .int .u8 43, val := (.agg #[.int .i64 1, .int .i64 (-1)]), born := 1 }] 2) := setMap_new _ _ _ _ _ _ b1
  have u3 : (Instr.mapUpdate 71 (.map (some w.heap.size)) (.int .u8 63) (.agg #[.int .i64 0, .int .i64 1])).run Tryz.prog (setMap (setMap (w.alloc (.map #[] 0)) w.heap.size #[{ key := .int .u8 42, val := (.agg #[.int .i64 0, .int .i64 (-1)]), born := 0 }] 1) w.heap.size #[{ key := .int .u8 42, val := (.agg #[.int .i64 0, .int .i64 (-1)]), born := 0 }, { key := .int .u8 43, val := (.agg #[.int .i64 1, .int .i64 (-1)]), born := 1 }] 2) = .ok () (setMap (setMap (setMap (w.alloc (.map #[] 0)) w.heap.size #[{ key := .int .u8 42, val := (.agg #[.int .i64 0, .int .i64 (-1)]), born := 0 }] 1) w.heap.size #[{ key := .int .u8 42, val := (.agg #[.int .i64 0, .int .i64 (-1)]), born := 0 }, { key := .int .u8 43, val := (.agg #[.int .i64 1, .int .i64 (-1)]), born := 1 }] 2) w.heap.size #[{ key := .int .u8 42, val := (.agg #[.int .i64 0, .int .i64 (-1)]), born := 0 }, { key := .int .u8 43, val := (.agg #[.int .i64 1, .int .i64 (-1)]), born := 1 }, { key := .int .u8 63, val := (.agg #[.int .i64 0, .int .i64 1]), born := 2 }] 3) := put_new (key := .int .u8 63) (val := (.agg #[.int .i64 0, .int .i64 1])) hm hk rfl b2 rfl
  have b3 : (setMap (setMap (setMap (w.alloc (.map #[] 0)) w.heap.size #[{ key := .int .u8 42, val := (.agg #[.int .i64 0, .int .i64 (-1)]), born := 0 }] 1) w.heap.size #[{ key := .int .u8 42, val := (.agg #[.int .i64 0, .int .i64 (-1)]), born := 0 }, { key := .int .u8 43, val := (.agg #[.int .i64 1, .int .i64 (-1)]), born := 1 }] 2) w.heap.size #[{ key := .int .u8 42, val := (.agg #[.int .i64 0, .int .i64 (-1)]), born := 0 }, { key := .int .u8 43, val := (.agg #[.int .i64 1, .int .i64 (-1)]), born := 1 }, { key := .int .u8 63, val := (.agg #[.int .i64 0, .int .i64 1]), born := 2 }] 3).heap[w.heap.size]? = some (.map #[{ key := .int .u8 42, val := (.agg #[.int .i64 0, .int .i64 (-1)]), born := 0 }, { key := .int .u8 43, val := (.agg #[.int .i64 1, .int .i64 (-1)]), born := 1 }, { key := .int .u8 63, val := (.agg #[.int .i64 0, .int .i64 1]), born := 2 }] 3) := setMap_new _ _ _ _ _ _ b2
  go_enter Tryz.func41, Tryz.ntmps41
  go_wp2
  go_ret
  exact ⟨rfl, b3, setMap_below _ _ (setMap_below _ _ (setMap_below _ _ ((Below.refl _ _).alloc (Nat.le_refl _) _) (Nat.le_refl _)) (Nat.le_refl _)) (Nat.le_refl _)⟩
end Go.Proofs.YtkpfpegjapddfaaGreatDoor
set_option maxRecDepth 20000
namespace Go.Proofs.YtkpfpegjapddfaaGreatDoor
open Go.RowKit

theorem rest_drop (s : ByteArray) (i k : Nat) : rest s (i + k) = (rest s i).drop k := by
  unfold rest
  rw [List.drop_drop]
/-- What is asked of strconv.Atoi. -/
def Few (_ : ByteArray) : Prop := ∀ _ : Nat, AtoiBig
theorem numB_le {l : List UInt8} {n k : Nat} (h : numB l = some (n, k)) : k ≤ l.length ∧ 0 < k ∧ n ≤ 32 := by
  unfold numB at h
  split at h
  · simp at h
  · simp at h
    have := digN_le l
    omega
theorem rest_le {s : ByteArray} {i k : Nat} (h : k ≤ (rest s i).length) (hi : i ≤ s.size) : i + k ≤ s.size := by
  rw [rest_length] at h
  omega
theorem Calls.both {P : Program} {f : FuncId} {args : Array Value} {w : World} {Q Q' : Ending → World → Prop} (h : Calls P f args w Q) (k : ∀ e w', Q e w' → Q' e w') : Calls P f args w Q' := h.mono k
/-- What a step of the parser leaves: what it reads, and how far; or where it fails. -/
def Res {α : Type} (r : Except Nat (α × Nat)) (V : α → Value) (s : ByteArray) (i o : Nat) (m : Value) (bp : Nat) (w : World) (e : Ending) (w' : World) : Prop := match r with
  | .ok (v, n) => e = .returned (V v) ∧ PS w w' bp s (i + n) o m
  | .error d => e = .panicked (probV (i + d)) ∧ w.grownBy w' (some bp)
/-- The greater number of an ending. -/
def upperR (l : List UInt8) : Except Nat (Int × Nat) := if seesB l 125 = true then .ok (-1, 0) else match numB l with
  | some (n, k) => .ok (n, k)
  | none => .error 0
theorem sees_len {l : List UInt8} {b : Nat} (h : seesB l b = true) : 1 ≤ l.length := by
  cases l
  · simp [seesB] at h
  · simp
theorem upperR_le {l : List UInt8} {n : Int} {k : Nat} (h : upperR l = .ok (n, k)) : k ≤ l.length ∧ -1 ≤ n ∧ n ≤ 32 := by
  unfold upperR at h
  split at h
  · simp at h
    omega
  · split at h
    · rename_i hn
      have := numB_le hn
      simp at h
      omega
    · simp at h
set_option maxHeartbeats 2000000 in
theorem upper_any (s : ByteArray) (i o : Nat) (m : Value) (bp : Nat) (w : World) (h : PB w bp s i o m) (hi : i ≤ s.size) (hs : s.size ≤ 65536) (hL : Lay w) (hf : Few s) (hlo : Lo bp) :
    Calls Tryz.prog 129 #[.pointer (some ⟨bp, 0, none⟩)] w fun e w' => Res (upperR (rest s i)) (fun n => .int .i64 n) s i o m bp w e w' := by
  by_cases hv : seesB (rest s i) 125 = true
  · have hr : upperR (rest s i) = .ok (-1, 0) := by unfold upperR; rw [if_pos hv]
    rw [hr]
    go_enter Tryz.func129, Tryz.ntmps129
    go_wp2_with (first | (go_at_call 106; refine (sees_any s 125 i o m bp _ h hi true hv).mono ?_; rintro e w1 ⟨rfl, hq⟩))
    go_ret
    exact ⟨rfl, go_of_quiet hq, h.quiet hq⟩
  · rw [Bool.not_eq_true] at hv
    have hr : upperR (rest s i) = match numB (rest s i) with
      | some (n, k) => .ok (n, k)
      | none => .error 0 := by unfold upperR; rw [if_neg (by rw [hv]; decide)]
    rw [hr]
    rcases hn : numB (rest s i) with _ | ⟨n, k⟩
    · go_enter Tryz.func129, Tryz.ntmps129
      go_wp2_with (first
        | (go_at_call 106; refine (sees_any s 125 i o m bp _ h hi false hv).mono ?_; rintro e w1 ⟨rfl, hq⟩)
        | (go_at_call 128; refine (number_any s i o m bp _ (h.quiet hq) hi hs (hL.grown (go_of_quiet hq) hlo) (hf i) hlo).mono ?_; unfold NumPost; rw [hn]; rintro e w2 ⟨rfl, hg⟩))
      exact ⟨rfl, rfl, (go_of_quiet hq).trans hg⟩
    · go_enter Tryz.func129, Tryz.ntmps129
      go_wp2_with (first
        | (go_at_call 106; refine (sees_any s 125 i o m bp _ h hi false hv).mono ?_; rintro e w1 ⟨rfl, hq⟩)
        | (go_at_call 128; refine (number_any s i o m bp _ (h.quiet hq) hi hs (hL.grown (go_of_quiet hq) hlo) (hf i) hlo).mono ?_; unfold NumPost; rw [hn]; rintro e w2 ⟨rfl, hg, hp⟩))
      go_ret
      exact ⟨rfl, (go_of_quiet hq).trans hg, hp⟩
end Go.Proofs.YtkpfpegjapddfaaGreatDoor
set_option maxRecDepth 20000
namespace Go.Proofs.YtkpfpegjapddfaaGreatDoor
open Go.RowKit

/-- The numbers of an ending, behind its bracket. -/
def countR (l : List UInt8) : Except Nat ((Int × Int) × Nat) := match numB l with
  | none => .error 0
  | some (a, k) => if seesB (l.drop k) 44 = true then match upperR (l.drop (k + 1)) with
      | .error d => .error (k + 1 + d)
      | .ok (b, k2) => if b ≠ -1 ∧ b < a then .error 0 else if seesB (l.drop (k + 1 + k2)) 125 = true then .ok ((a, b), k + 1 + k2 + 1) else .error (k + 1 + k2)
    else if seesB (l.drop k) 125 = true then .ok ((a, a), k + 1) else .error k
def timesV (p : Int × Int) : Value := .agg #[.int .i64 p.1, .int .i64 p.2]
/-- The result's own block. -/
def TB (w : World) (b : Nat) (x y : Value) : Prop := w.heap[b]? = some (.cells #[x, y] 74 (0, 0))
theorem times_cells {w : World} {b : Nat} {x y : Value} (h : TB w b x y) : w.cell? ⟨b, 0, none⟩ = some x ∧ w.cell? ⟨b, 1, none⟩ = some y ∧ w.frozen? ⟨b, 0, none⟩ = false ∧ w.frozen? ⟨b, 1, none⟩ = false := by
  unfold TB at h
  simp [World.cell?, World.frozen?, h]
theorem res_keep {w w' : World} {bp b : Nat} {x y : Value} (hg : w.grownBy w' (some bp)) (hne : b ≠ bp) (h : TB w b x y) : TB w' b x y := (hg.block b (lt_of_block h) (by simpa using hne)).trans h
theorem PS.result {w w0 w' : World} {bp b : Nat} {s : ByteArray} {i o : Nat} {m x y : Value} (hl : w.heap.size ≤ b) (hb : bp < w.heap.size) (hg0 : w.grownBy w0 (some bp)) (hg : w0.grownBy w' (some bp)) (hp : PB w' bp s i o m) : PS w ((w'.setCell ⟨b, 0, none⟩ x).setCell ⟨b, 1, none⟩ y) bp s i o m := by
  have h1 := hg0.trans hg
  have g1 := go_set w' b 0 x
  have g2 := go_set (w'.setCell ⟨b, 0, none⟩ x) b 1 y
  refine ⟨⟨g2.os.trans (g1.os.trans h1.os), g2.tape.trans (g1.tape.trans h1.tape), g2.output.trans (g1.output.trans h1.output), Nat.le_trans h1.size (Nat.le_trans g1.size g2.size), fun k hk hne => ?_⟩, ?_⟩
  · rw [Below.heap_setCell _ _ _ _ (by simp; omega), Below.heap_setCell _ _ _ _ (by simp; omega)]
    exact h1.block k hk hne
  · unfold PB
    rw [Below.heap_setCell _ _ _ _ (by simp; omega), Below.heap_setCell _ _ _ _ (by simp; omega)]
    exact hp
set_option maxHeartbeats 4000000 in
theorem pcount_any (s : ByteArray) (i o : Nat) (m : Value) (bp : Nat) (w : World) (h : PB w bp s i o m) (hi : i ≤ s.size) (hs : s.size ≤ 65536) (hL : Lay w) (hf : Few s) (hlo : Lo bp) :
    Calls Tryz.prog 123 #[.pointer (some ⟨bp, 0, none⟩)] w fun e w' => Res (countR (rest s i)) timesV s i o m bp w e w' := by
  have hbp := h.lt
  have hb0 : Below w.heap.size w (w.alloc (.cells #[.int .i64 0, .int .i64 0] 74)) := (Below.refl _ _).alloc (Nat.le_refl _) _
  have hg0 : w.grownBy (w.alloc (.cells #[.int .i64 0, .int .i64 0] 74)) (some bp) := grown_of_below hb0
  have h0 := h.alloc (.cells #[.int .i64 0, .int .i64 0] 74)
  have hL0 := hL.below hb0
  have hne : w.heap.size ≠ bp := by omega
  have ht0 : TB (w.alloc (.cells #[.int .i64 0, .int .i64 0] 74)) w.heap.size (.int .i64 0) (.int .i64 0) := heap_alloc_new w _
  obtain ⟨p0, p1, p2, p3⟩ := h0.cells
  rcases hn : numB (rest s i) with _ | ⟨a, k⟩
  · have hr : countR (rest s i) = .error 0 := by simp [countR, hn]
    rw [hr]
    go_enter Tryz.func123, Tryz.ntmps123
    go_wp2_with (first | (go_at_call 128; refine (number_any s i o m bp _ h0 hi hs hL0 (hf i) hlo).mono ?_; unfold NumPost; rw [hn]; rintro e w1 ⟨rfl, h1⟩))
    exact ⟨rfl, rfl, hg0.trans h1⟩
  · have hk := rest_le (numB_le hn).1 hi
    have ha := (numB_le hn).2.2
    have a1 : ((a : Int) != -1) = true := by rw [bne_iff_ne]; omega
    have a2 : ¬ (a : Int) < (a : Int) := by omega
    by_cases hv : seesB (rest s (i + k)) 44 = true
    · have hk1 := rest_le (sees_len hv) hk
      have hv2 := hv
      rw [rest_drop] at hv2
      rcases hu : upperR (rest s (i + k + 1)) with d | ⟨b, k2⟩
      · have hr : countR (rest s i) = .error (k + 1 + d) := by
          have hu2 := hu
          rw [Nat.add_assoc, rest_drop] at hu2
          simp [countR, hn, hv2, hu2]
        rw [hr]
        go_enter Tryz.func123, Tryz.ntmps123
        go_wp2_with (first | (go_at_call 128; refine (number_any s i o m bp _ h0 hi hs hL0 (hf i) hlo).mono ?_; unfold NumPost; rw [hn]; rintro e w1 ⟨rfl, h1⟩) | (go_at_call 97; refine (skip_any s 44 (i + k) o m bp _ h1.2 hk hs true hv).mono ?_; simp only [cond_true]; rintro e w2 ⟨rfl, h2⟩) | (go_at_call 129; refine (upper_any s (i + k + 1) o m bp _ h2.2 hk1 hs (hL0.grown (h1.1.trans h2.1) hlo) hf hlo).mono ?_; rw [hu]; rintro e w3 ⟨rfl, h3⟩))
        exact ⟨rfl, by rw [← Nat.add_assoc, ← Nat.add_assoc], hg0.trans ((h1.1.trans h2.1).trans h3)⟩
      · have hk2 := rest_le (upperR_le hu).1 hk1
        have hu2 := hu
        rw [Nat.add_assoc, rest_drop] at hu2
        by_cases hb : b ≠ -1 ∧ b < a
        · have hr : countR (rest s i) = .error 0 := by simp [countR, hn, hv2, hu2, hb]
          rw [hr]
          have b1 : (b != -1) = true := by simp; exact hb.1
          have b2 : b < (a : Int) := hb.2
          go_enter Tryz.func123, Tryz.ntmps123
          go_wp2_with (first | (go_at_call 128; refine (number_any s i o m bp _ h0 hi hs hL0 (hf i) hlo).mono ?_; unfold NumPost; rw [hn]; rintro e w1 ⟨rfl, h1⟩) | (go_at_call 97; refine (skip_any s 44 (i + k) o m bp _ h1.2 hk hs true hv).mono ?_; simp only [cond_true]; rintro e w2 ⟨rfl, h2⟩) | (go_at_call 129; refine (upper_any s (i + k + 1) o m bp _ h2.2 hk1 hs (hL0.grown (h1.1.trans h2.1) hlo) hf hlo).mono ?_; rw [hu]; rintro e w3 ⟨rfl, h3⟩) | (go_at_call 80; refine (fail_any i _).mono ?_; rintro e w4 ⟨rfl, rfl⟩))
          exact ⟨rfl, rfl, hg0.trans ((h1.1.trans h2.1).trans h3.1)⟩
        · by_cases hx : seesB (rest s (i + k + 1 + k2)) 125 = true
          · have hx2 := hx
            rw [Nat.add_assoc, Nat.add_assoc, ← Nat.add_assoc k 1 k2, rest_drop] at hx2
            have hr : countR (rest s i) = .ok (((a : Int), b), k + 1 + k2 + 1) := by
              unfold countR
              simp only [hn, hv2, hu2, if_true]
              rw [if_neg hb, if_pos hx2]
            rw [hr]
            have b3 : b = -1 ∨ ¬ b < (a : Int) := by
              by_cases h : b = -1
              · exact .inl h
              · exact .inr fun h2 => hb ⟨h, h2⟩
            rcases b3 with rfl | b2
            · go_enter Tryz.func123, Tryz.ntmps123
              go_wp2_with (first | (go_at_call 128; refine (number_any s i o m bp _ h0 hi hs hL0 (hf i) hlo).mono ?_; unfold NumPost; rw [hn]; rintro e w1 ⟨rfl, h1⟩) | (go_at_call 97; refine (skip_any s 44 (i + k) o m bp _ h1.2 hk hs true hv).mono ?_; simp only [cond_true]; rintro e w2 ⟨rfl, h2⟩) | (go_at_call 129; refine (upper_any s (i + k + 1) o m bp _ h2.2 hk1 hs (hL0.grown (h1.1.trans h2.1) hlo) hf hlo).mono ?_; rw [hu]; rintro e w3 ⟨rfl, h3⟩) | (go_at_call 124; refine (expect_yes s 125 (i + k + 1 + k2) o m bp _ h3.2 hk2 hs hx).mono ?_; rintro e w5 ⟨rfl, h5⟩; have ht5 := (res_keep (((h1.1.trans h2.1).trans h3.1).trans h5.1) hne ht0); obtain ⟨r0, r1, r2, r3⟩ := times_cells ht5))
              exact bodyPost_ret (v := timesV (_, _)) (by simp [results, Tryz.results123, go_sem, timesV, r0, r1]) rfl ⟨rfl, PS.result (Nat.le_refl _) hbp hg0 (((h1.1.trans h2.1).trans h3.1).trans h5.1) (by have := h5.2; rwa [show i + k + 1 + k2 + 1 = i + (k + 1 + k2 + 1) from by omega] at this)⟩
            · by_cases b1 : (b != -1) = true
              · go_enter Tryz.func123, Tryz.ntmps123
                go_wp2_with (first | (go_at_call 128; refine (number_any s i o m bp _ h0 hi hs hL0 (hf i) hlo).mono ?_; unfold NumPost; rw [hn]; rintro e w1 ⟨rfl, h1⟩) | (go_at_call 97; refine (skip_any s 44 (i + k) o m bp _ h1.2 hk hs true hv).mono ?_; simp only [cond_true]; rintro e w2 ⟨rfl, h2⟩) | (go_at_call 129; refine (upper_any s (i + k + 1) o m bp _ h2.2 hk1 hs (hL0.grown (h1.1.trans h2.1) hlo) hf hlo).mono ?_; rw [hu]; rintro e w3 ⟨rfl, h3⟩) | (go_at_call 124; refine (expect_yes s 125 (i + k + 1 + k2) o m bp _ h3.2 hk2 hs hx).mono ?_; rintro e w5 ⟨rfl, h5⟩; have ht5 := (res_keep (((h1.1.trans h2.1).trans h3.1).trans h5.1) hne ht0); obtain ⟨r0, r1, r2, r3⟩ := times_cells ht5))
                exact bodyPost_ret (v := timesV (_, _)) (by simp [results, Tryz.results123, go_sem, timesV, r0, r1]) rfl ⟨rfl, PS.result (Nat.le_refl _) hbp hg0 (((h1.1.trans h2.1).trans h3.1).trans h5.1) (by have := h5.2; rwa [show i + k + 1 + k2 + 1 = i + (k + 1 + k2 + 1) from by omega] at this)⟩
              · rw [Bool.not_eq_true] at b1
                go_enter Tryz.func123, Tryz.ntmps123
                go_wp2_with (first | (go_at_call 128; refine (number_any s i o m bp _ h0 hi hs hL0 (hf i) hlo).mono ?_; unfold NumPost; rw [hn]; rintro e w1 ⟨rfl, h1⟩) | (go_at_call 97; refine (skip_any s 44 (i + k) o m bp _ h1.2 hk hs true hv).mono ?_; simp only [cond_true]; rintro e w2 ⟨rfl, h2⟩) | (go_at_call 129; refine (upper_any s (i + k + 1) o m bp _ h2.2 hk1 hs (hL0.grown (h1.1.trans h2.1) hlo) hf hlo).mono ?_; rw [hu]; rintro e w3 ⟨rfl, h3⟩) | (go_at_call 124; refine (expect_yes s 125 (i + k + 1 + k2) o m bp _ h3.2 hk2 hs hx).mono ?_; rintro e w5 ⟨rfl, h5⟩; have ht5 := (res_keep (((h1.1.trans h2.1).trans h3.1).trans h5.1) hne ht0); obtain ⟨r0, r1, r2, r3⟩ := times_cells ht5))
                exact bodyPost_ret (v := timesV (_, _)) (by simp [results, Tryz.results123, go_sem, timesV, r0, r1]) rfl ⟨rfl, PS.result (Nat.le_refl _) hbp hg0 (((h1.1.trans h2.1).trans h3.1).trans h5.1) (by have := h5.2; rwa [show i + k + 1 + k2 + 1 = i + (k + 1 + k2 + 1) from by omega] at this)⟩
          · rw [Bool.not_eq_true] at hx
            have hx2 := hx
            rw [Nat.add_assoc, Nat.add_assoc, ← Nat.add_assoc k 1 k2, rest_drop] at hx2
            have hr : countR (rest s i) = .error (k + 1 + k2) := by
              unfold countR
              simp only [hn, hv2, hu2, if_true]
              rw [if_neg hb, if_neg (by rw [hx2]; decide)]
            rw [hr]
            have b3 : b = -1 ∨ ¬ b < (a : Int) := by
              by_cases h : b = -1
              · exact .inl h
              · exact .inr fun h2 => hb ⟨h, h2⟩
            rcases b3 with rfl | b2
            · go_enter Tryz.func123, Tryz.ntmps123
              go_wp2_with (first | (go_at_call 128; refine (number_any s i o m bp _ h0 hi hs hL0 (hf i) hlo).mono ?_; unfold NumPost; rw [hn]; rintro e w1 ⟨rfl, h1⟩) | (go_at_call 97; refine (skip_any s 44 (i + k) o m bp _ h1.2 hk hs true hv).mono ?_; simp only [cond_true]; rintro e w2 ⟨rfl, h2⟩) | (go_at_call 129; refine (upper_any s (i + k + 1) o m bp _ h2.2 hk1 hs (hL0.grown (h1.1.trans h2.1) hlo) hf hlo).mono ?_; rw [hu]; rintro e w3 ⟨rfl, h3⟩) | (go_at_call 124; refine (expect_no s 125 (i + k + 1 + k2) o m bp _ h3.2 hk2 hs hx).mono ?_; rintro e w5 ⟨rfl, h5⟩; have ht5 := (res_keep (((h1.1.trans h2.1).trans h3.1).trans h5.1) hne ht0); obtain ⟨r0, r1, r2, r3⟩ := times_cells ht5))
              exact ⟨rfl, by rw [show i + k + 1 + k2 = i + (k + 1 + k2) from by omega], hg0.trans (((h1.1.trans h2.1).trans h3.1).trans h5.1)⟩
            · by_cases b1 : (b != -1) = true
              · go_enter Tryz.func123, Tryz.ntmps123
                go_wp2_with (first | (go_at_call 128; refine (number_any s i o m bp _ h0 hi hs hL0 (hf i) hlo).mono ?_; unfold NumPost; rw [hn]; rintro e w1 ⟨rfl, h1⟩) | (go_at_call 97; refine (skip_any s 44 (i + k) o m bp _ h1.2 hk hs true hv).mono ?_; simp only [cond_true]; rintro e w2 ⟨rfl, h2⟩) | (go_at_call 129; refine (upper_any s (i + k + 1) o m bp _ h2.2 hk1 hs (hL0.grown (h1.1.trans h2.1) hlo) hf hlo).mono ?_; rw [hu]; rintro e w3 ⟨rfl, h3⟩) | (go_at_call 124; refine (expect_no s 125 (i + k + 1 + k2) o m bp _ h3.2 hk2 hs hx).mono ?_; rintro e w5 ⟨rfl, h5⟩; have ht5 := (res_keep (((h1.1.trans h2.1).trans h3.1).trans h5.1) hne ht0); obtain ⟨r0, r1, r2, r3⟩ := times_cells ht5))
                exact ⟨rfl, by rw [show i + k + 1 + k2 = i + (k + 1 + k2) from by omega], hg0.trans (((h1.1.trans h2.1).trans h3.1).trans h5.1)⟩
              · rw [Bool.not_eq_true] at b1
                go_enter Tryz.func123, Tryz.ntmps123
                go_wp2_with (first | (go_at_call 128; refine (number_any s i o m bp _ h0 hi hs hL0 (hf i) hlo).mono ?_; unfold NumPost; rw [hn]; rintro e w1 ⟨rfl, h1⟩) | (go_at_call 97; refine (skip_any s 44 (i + k) o m bp _ h1.2 hk hs true hv).mono ?_; simp only [cond_true]; rintro e w2 ⟨rfl, h2⟩) | (go_at_call 129; refine (upper_any s (i + k + 1) o m bp _ h2.2 hk1 hs (hL0.grown (h1.1.trans h2.1) hlo) hf hlo).mono ?_; rw [hu]; rintro e w3 ⟨rfl, h3⟩) | (go_at_call 124; refine (expect_no s 125 (i + k + 1 + k2) o m bp _ h3.2 hk2 hs hx).mono ?_; rintro e w5 ⟨rfl, h5⟩; have ht5 := (res_keep (((h1.1.trans h2.1).trans h3.1).trans h5.1) hne ht0); obtain ⟨r0, r1, r2, r3⟩ := times_cells ht5))
                exact ⟨rfl, by rw [show i + k + 1 + k2 = i + (k + 1 + k2) from by omega], hg0.trans (((h1.1.trans h2.1).trans h3.1).trans h5.1)⟩
    · rw [Bool.not_eq_true] at hv
      have hv2 := hv
      rw [rest_drop] at hv2
      by_cases hx : seesB (rest s (i + k)) 125 = true
      · have hx2 := hx
        rw [rest_drop] at hx2
        have hr : countR (rest s i) = .ok (((a : Int), (a : Int)), k + 1) := by simp [countR, hn, hv2, hx2]
        rw [hr]
        go_enter Tryz.func123, Tryz.ntmps123
        go_wp2_with (first | (go_at_call 128; refine (number_any s i o m bp _ h0 hi hs hL0 (hf i) hlo).mono ?_; unfold NumPost; rw [hn]; rintro e w1 ⟨rfl, h1⟩) | (go_at_call 97; refine (skip_any s 44 (i + k) o m bp _ h1.2 hk hs false hv).mono ?_; simp only [cond_false]; rintro e w2 ⟨rfl, h2⟩) | (go_at_call 124; refine (expect_yes s 125 (i + k) o m bp _ h2.2 hk hs hx).mono ?_; rintro e w5 ⟨rfl, h5⟩; have ht5 := (res_keep ((h1.1.trans h2.1).trans h5.1) hne ht0); obtain ⟨r0, r1, r2, r3⟩ := times_cells ht5))
        exact bodyPost_ret (v := timesV (_, _)) (by simp [results, Tryz.results123, go_sem, timesV, r0, r1]) rfl ⟨rfl, PS.result (Nat.le_refl _) hbp hg0 ((h1.1.trans h2.1).trans h5.1) (by have := h5.2; rwa [show i + k + 1 = i + (k + 1) from by omega] at this)⟩
      · rw [Bool.not_eq_true] at hx
        have hx2 := hx
        rw [rest_drop] at hx2
        have hr : countR (rest s i) = .error k := by simp [countR, hn, hv2, hx2]
        rw [hr]
        go_enter Tryz.func123, Tryz.ntmps123
        go_wp2_with (first | (go_at_call 128; refine (number_any s i o m bp _ h0 hi hs hL0 (hf i) hlo).mono ?_; unfold NumPost; rw [hn]; rintro e w1 ⟨rfl, h1⟩) | (go_at_call 97; refine (skip_any s 44 (i + k) o m bp _ h1.2 hk hs false hv).mono ?_; simp only [cond_false]; rintro e w2 ⟨rfl, h2⟩) | (go_at_call 124; refine (expect_no s 125 (i + k) o m bp _ h2.2 hk hs hx).mono ?_; rintro e w5 ⟨rfl, h5⟩; have ht5 := (res_keep ((h1.1.trans h2.1).trans h5.1) hne ht0); obtain ⟨r0, r1, r2, r3⟩ := times_cells ht5))
        exact ⟨rfl, by rw [show i + k = i + (k) from by omega], hg0.trans ((h1.1.trans h2.1).trans h5.1)⟩
end Go.Proofs.YtkpfpegjapddfaaGreatDoor
set_option maxRecDepth 20000
namespace Go.Proofs.YtkpfpegjapddfaaGreatDoor
open Go.RowKit

/-- An ending, if there is one. -/
def repR (l : List UInt8) : Except Nat (Option (Int × Int) × Nat) := match l with
  | [] => .ok (none, 0)
  | c :: r => if c = 123 then match countR r with
      | .ok (p, n) => .ok (some p, n + 1)
      | .error d => .error (d + 1)
    else match opB c.toNat with
      | some p => .ok (some p, 1)
      | none => .ok (none, 0)
def repV (p : Option (Int × Int)) : Value := match p with
  | some p => .tuple #[timesV p, .bool true]
  | none => .tuple #[timesV (0, 0), .bool false]
/-- The parser's map lies in block g. -/
def Ops (w : World) (g : Nat) : Prop := w.heap[g]? = some (.map opsMap 3)
theorem Ops.grown {w w' : World} {g bp : Nat} (h : Ops w g) (hg : w.grownBy w' (some bp)) (hne : g ≠ bp) : Ops w' g := (hg.block g (lt_of_block h) (by simpa using hne)).trans h
set_option maxHeartbeats 4000000 in
theorem repetition_any (s : ByteArray) (i o g : Nat) (bp : Nat) (w : World) (h : PB w bp s i o (.map (some g))) (hm : Ops w g) (hgb : g ≠ bp) (hi : i ≤ s.size) (hs : s.size ≤ 65536) (hL : Lay w) (hf : Few s) (hlo : Lo bp) :
    Calls Tryz.prog 115 #[.pointer (some ⟨bp, 0, none⟩)] w fun e w' => Res (repR (rest s i)) repV s i o (.map (some g)) bp w e w' := by
  have hbp := h.lt
  have hb0 : Below w.heap.size w (w.alloc (.cells #[.int .i64 0, .int .i64 0] 74)) := (Below.refl _ _).alloc (Nat.le_refl _) _
  have hg0 : w.grownBy (w.alloc (.cells #[.int .i64 0, .int .i64 0] 74)) (some bp) := grown_of_below hb0
  have h0 := h.alloc (.cells #[.int .i64 0, .int .i64 0] 74)
  have hL0 := hL.below hb0
  have hne : w.heap.size ≠ bp := by omega
  have ht0 : TB (w.alloc (.cells #[.int .i64 0, .int .i64 0] 74)) w.heap.size (.int .i64 0) (.int .i64 0) := heap_alloc_new w _
  obtain ⟨p0, p1, p2, p3⟩ := h0.cells
  rcases Nat.lt_or_ge i s.size with hlt | hge
  · have hr := rest_cons hlt
    have he : (rest s i).isEmpty = false := by rw [hr]; rfl
    by_cases c : s[i] = 123
    · have hv : seesB (rest s i) 123 = true := by rw [hr, c]; rfl
      have hi1 : i + 1 ≤ s.size := by omega
      rcases hc : countR (rest s (i + 1)) with d | ⟨⟨x, y⟩, n⟩
      · have hx : repR (rest s i) = .error (d + 1) := by rw [hr]; simp [repR, c, hc]
        rw [hx]
        go_enter Tryz.func115, Tryz.ntmps115
        go_wp2_with (first | (go_at_call 79; refine (atEnd_any s i o _ bp _ h0 hi false he).mono ?_; rintro e w1 ⟨rfl, hq⟩; have h1 := h0.quiet hq) | (go_at_call 97; refine (skip_any s 123 i o _ bp _ h1 hi hs true hv).mono ?_; simp only [cond_true]; rintro e w2 ⟨rfl, h2⟩) | (go_at_call 123; refine (pcount_any s (i + 1) o _ bp _ h2.2 hi1 hs (hL0.grown ((go_of_quiet hq).trans h2.1) hlo) hf hlo).mono ?_; rw [hc]; simp only [Res]; rintro e w3 ⟨rfl, h3⟩))
        exact ⟨rfl, by rw [show i + 1 + d = i + (d + 1) from by omega], hg0.trans (((go_of_quiet hq).trans h2.1).trans h3)⟩
      · have hx : repR (rest s i) = .ok (some (x, y), n + 1) := by rw [hr]; simp [repR, c, hc]
        rw [hx]
        go_enter Tryz.func115, Tryz.ntmps115
        go_wp2_with (first | (go_at_call 79; refine (atEnd_any s i o _ bp _ h0 hi false he).mono ?_; rintro e w1 ⟨rfl, hq⟩; have h1 := h0.quiet hq) | (go_at_call 97; refine (skip_any s 123 i o _ bp _ h1 hi hs true hv).mono ?_; simp only [cond_true]; rintro e w2 ⟨rfl, h2⟩) | (go_at_call 123; refine (pcount_any s (i + 1) o _ bp _ h2.2 hi1 hs (hL0.grown ((go_of_quiet hq).trans h2.1) hlo) hf hlo).mono ?_; rw [hc]; simp only [Res, timesV]; rintro e w3 ⟨rfl, h3⟩; have ht3 := res_keep (((go_of_quiet hq).trans h2.1).trans h3.1) hne ht0; obtain ⟨r0, r1, r2, r3⟩ := times_cells ht3))
        exact bodyPost_ret (v := repV (some (_, _))) (by simp [results, Tryz.results115, go_sem, repV, timesV, r0, r1]) rfl ⟨rfl, PS.result (Nat.le_refl _) hbp hg0 (((go_of_quiet hq).trans h2.1).trans h3.1) (by have := h3.2; rwa [show i + 1 + n = i + (n + 1) from by omega] at this)⟩
    · have hv : seesB (rest s i) 123 = false := by
        rw [hr]
        simp only [seesB, decide_eq_false_iff_not]
        exact fun h => c (UInt8.toNat_inj.1 h)
      have j0 : (0 : Int) ≤ (i : Int) := by omega
      have j1 : (i : Int) < (s.size : Int) := by omega
      have e1 : IntKind.i64.wrap ((i : Int) + 1) = (i : Int) + 1 := by rw [IntKind.wrap_i64]; omega
      rcases ho : opB s[i].toNat with _ | p
      · have hx : repR (rest s i) = .ok (none, 0) := by rw [hr]; simp [repR, c, ho]
        rw [hx]
        go_enter Tryz.func115, Tryz.ntmps115
        have hlk : ∀ (W : World), W.heap[g]? = some (.map opsMap 3) → (Instr.lookup 71 (.map (some g)) (.int .u8 (s[i].toNat : Int)) true).run Tryz.prog W = .ok (.tuple #[.agg #[.int .i64 0, .int .i64 0], .bool false]) W := fun W hW => by
          have := look_ops (w := W) hW s[i].toNat
          rw [ho] at this
          exact this
        go_wp2_with (first | (go_at_call 79; refine (atEnd_any s i o _ bp _ h0 hi false he).mono ?_; rintro e w1 ⟨rfl, hq⟩; have h1 := h0.quiet hq) | (go_at_call 97; refine (skip_any s 123 i o _ bp _ h1 hi hs false hv).mono ?_; simp only [cond_false]; rintro e w2 ⟨rfl, h2⟩; obtain ⟨q0, q1, q2, q3⟩ := h2.2.cells))
        have hm2 := hm.grown ((hg0.trans (go_of_quiet hq)).trans h2.1) hgb
        have hlA := hlk w2.drew hm2
        have hlB := hlk (w2.alloc (.cells #[.int .i64 0, .int .i64 0] 74)).drew (((hm2.grown (bp := bp) (grown_of_below ((Below.refl _ w2).alloc (Nat.le_refl _) (.cells #[.int .i64 0, .int .i64 0] 74)).drew) hgb)))
        have ht2 := res_keep ((go_of_quiet hq).trans h2.1) hne ht0
        obtain ⟨r0, r1, r2, r3⟩ := times_cells ht2
        have hl2 := h2.2.lt
        have htl := lt_of_block ht2
        have ha : Below w2.heap.size w2 (w2.alloc (.cells #[.int .i64 0, .int .i64 0] 74)).drew := ((Below.refl _ w2).alloc (Nat.le_refl _) _).drew
        have hp4 := h2.2.below ha
        have ht4 := res_keep (bp := bp) (grown_of_below ha) hne ht2
        have hu4 : TB (w2.alloc (.cells #[.int .i64 0, .int .i64 0] 74)).drew w2.heap.size (.int .i64 0) (.int .i64 0) := heap_alloc_new w2 _
        have hg4 : (w.alloc (.cells #[.int .i64 0, .int .i64 0] 74)).grownBy (w2.alloc (.cells #[.int .i64 0, .int .i64 0] 74)).drew (some bp) := ((go_of_quiet hq).trans h2.1).trans (grown_of_below ha)
        obtain ⟨w4, hw4⟩ : ∃ z, z = (w2.alloc (.cells #[.int .i64 0, .int .i64 0] 74)).drew := ⟨_, rfl⟩
        rw [← hw4] at hp4 ht4 hu4 hg4
        obtain ⟨k0, k1, k2, k3⟩ := hp4.cells
        have f4 := hp4.free 1
        obtain ⟨v0, v1, v2, v3⟩ := times_cells ht4
        obtain ⟨u0, u1, u2, u3⟩ := times_cells hu4
        have hne4 : bp ≠ w2.heap.size := by omega
        have HW4 := Lib.hid hw4
        clear ha hw4
        go_region
        all_goals rw [← HW4.out]
        all_goals go_wp2
        all_goals exact bodyPost_ret (v := repV none) (by simp [results, Tryz.results115, go_sem, repV, timesV, v0, v1]) rfl ⟨rfl, PS.result (Nat.le_refl _) hbp hg0 hg4 hp4⟩
      · obtain ⟨x, y⟩ := p
        have hx : repR (rest s i) = .ok (some (x, y), 1) := by rw [hr]; simp [repR, c, ho]
        rw [hx]
        go_enter Tryz.func115, Tryz.ntmps115
        have hlk : ∀ (W : World), W.heap[g]? = some (.map opsMap 3) → (Instr.lookup 71 (.map (some g)) (.int .u8 (s[i].toNat : Int)) true).run Tryz.prog W = .ok (.tuple #[.agg #[.int .i64 x, .int .i64 y], .bool true]) W := fun W hW => by
          have := look_ops (w := W) hW s[i].toNat
          rw [ho] at this
          exact this
        go_wp2_with (first | (go_at_call 79; refine (atEnd_any s i o _ bp _ h0 hi false he).mono ?_; rintro e w1 ⟨rfl, hq⟩; have h1 := h0.quiet hq) | (go_at_call 97; refine (skip_any s 123 i o _ bp _ h1 hi hs false hv).mono ?_; simp only [cond_false]; rintro e w2 ⟨rfl, h2⟩; obtain ⟨q0, q1, q2, q3⟩ := h2.2.cells))
        have hm2 := hm.grown ((hg0.trans (go_of_quiet hq)).trans h2.1) hgb
        have hlA := hlk w2.drew hm2
        have hlB := hlk (w2.alloc (.cells #[.int .i64 0, .int .i64 0] 74)).drew (((hm2.grown (bp := bp) (grown_of_below ((Below.refl _ w2).alloc (Nat.le_refl _) (.cells #[.int .i64 0, .int .i64 0] 74)).drew) hgb)))
        have ht2 := res_keep ((go_of_quiet hq).trans h2.1) hne ht0
        obtain ⟨r0, r1, r2, r3⟩ := times_cells ht2
        have hl2 := h2.2.lt
        have htl := lt_of_block ht2
        have f1 := h2.2.free 1
        have ha : Below w2.heap.size w2 (w2.alloc (.cells #[.int .i64 x, .int .i64 y] 74)).drew := ((Below.refl _ w2).alloc (Nat.le_refl _) _).drew
        have hp4 := h2.2.below ha
        have ht4 := res_keep (bp := bp) (grown_of_below ha) hne ht2
        have hu4 : TB (w2.alloc (.cells #[.int .i64 x, .int .i64 y] 74)).drew w2.heap.size (.int .i64 x) (.int .i64 y) := heap_alloc_new w2 _
        have hg4 : (w.alloc (.cells #[.int .i64 0, .int .i64 0] 74)).grownBy (w2.alloc (.cells #[.int .i64 x, .int .i64 y] 74)).drew (some bp) := ((go_of_quiet hq).trans h2.1).trans (grown_of_below ha)
        obtain ⟨w4, hw4⟩ : ∃ z, z = (w2.alloc (.cells #[.int .i64 x, .int .i64 y] 74)).drew := ⟨_, rfl⟩
        rw [← hw4] at hp4 ht4 hu4 hg4
        obtain ⟨k0, k1, k2, k3⟩ := hp4.cells
        have f4 := hp4.free 1
        obtain ⟨v0, v1, v2, v3⟩ := times_cells ht4
        obtain ⟨u0, u1, u2, u3⟩ := times_cells hu4
        have hne4 : bp ≠ w2.heap.size := by omega
        have HW4 := Lib.hid hw4
        clear ha hw4
        go_region
        all_goals rw [← HW4.out]
        all_goals go_wp2
        all_goals exact bodyPost_ret (v := repV (some (_, _))) (by simp [results, Tryz.results115, go_sem, repV, timesV, v0, v1]) rfl ⟨rfl, PS.result (Nat.le_refl _) hbp hg0 (hg4.trans (go_set _ bp 1 _)) (hp4.to (i + 1) (x := (i : Int) + 1) (by omega))⟩
  · have he : (rest s i).isEmpty = true := by rw [rest_end hge]; rfl
    have hx : repR (rest s i) = .ok (none, 0) := by rw [rest_end hge]; rfl
    rw [hx]
    go_enter Tryz.func115, Tryz.ntmps115
    go_wp2_with (first | (go_at_call 79; refine (atEnd_any s i o _ bp _ h0 hi true he).mono ?_; rintro e w1 ⟨rfl, hq⟩; have h1 := h0.quiet hq; have ht1 := res_keep (bp := bp) (go_of_quiet hq) hne ht0; obtain ⟨r0, r1, r2, r3⟩ := times_cells ht1))
    exact bodyPost_ret (v := repV none) (by simp [results, Tryz.results115, go_sem, repV, timesV, r0, r1]) rfl ⟨rfl, PS.result (Nat.le_refl _) hbp hg0 (go_of_quiet hq) h1⟩
end Go.Proofs.YtkpfpegjapddfaaGreatDoor
set_option maxRecDepth 20000
namespace Go.Proofs.YtkpfpegjapddfaaGreatDoor
open Go.RowKit

/-- A byte of a class, or two with a dash between. -/
def elemR (l : List UInt8) : Except Nat ((Nat × Nat) × Nat) := match oneB plainC l with
  | none => .error 0
  | some (lo, n) => if seesB (l.drop n) 45 = true then match oneB plainC (l.drop (n + 1)) with
      | none => .error (n + 1)
      | some (hi, n2) => if hi < lo then .error 0 else .ok ((lo, hi), n + 1 + n2)
    else .ok ((lo, lo), n)
def rangeV (p : Nat × Nat) : Value := (.agg #[.int .u64 (wd (ofP (rangeP p.1 p.2)) 0), .int .u64 (wd (ofP (rangeP p.1 p.2)) 1), .int .u64 (wd (ofP (rangeP p.1 p.2)) 2), .int .u64 (wd (ofP (rangeP p.1 p.2)) 3)])
theorem elemR_le {l : List UInt8} {p : Nat × Nat} {n : Nat} (h : elemR l = .ok (p, n)) : 0 < n ∧ n ≤ l.length := by
  unfold elemR at h
  split at h
  · simp at h
  · rename_i lo k ho
    have h1 := oneB_len ho
    split at h
    · split at h
      · simp at h
      · rename_i hi n2 ho2
        have h2 := oneB_len ho2
        rw [List.length_drop] at h2
        split at h
        · simp at h
        · simp at h
          omega
    · simp at h
      omega
theorem SetAt.keep {w w' : World} {bp b : Nat} {x : BitVec 256} (hg : w.grownBy w' (some bp)) (hne : b ≠ bp) (h : SetAt w b x) : SetAt w' b x := (hg.block b h.lt (by simpa using hne)).trans h
theorem PS.result4 {w w0 w' : World} {bp b : Nat} {s : ByteArray} {i o : Nat} {m u0 u1 u2 u3 : Value} (hl : w.heap.size ≤ b) (hb : bp < w.heap.size) (hg0 : w.grownBy w0 (some bp)) (hg : w0.grownBy w' (some bp)) (hp : PB w' bp s i o m) : PS w ((((w'.setCell ⟨b, 0, none⟩ u0).setCell ⟨b, 1, none⟩ u1).setCell ⟨b, 2, none⟩ u2).setCell ⟨b, 3, none⟩ u3) bp s i o m := by
  have h1 := hg0.trans hg
  have g1 := go_set w' b 0 u0
  have g2 := go_set (w'.setCell ⟨b, 0, none⟩ u0) b 1 u1
  have g3 := go_set ((w'.setCell ⟨b, 0, none⟩ u0).setCell ⟨b, 1, none⟩ u1) b 2 u2
  have g4 := go_set (((w'.setCell ⟨b, 0, none⟩ u0).setCell ⟨b, 1, none⟩ u1).setCell ⟨b, 2, none⟩ u2) b 3 u3
  have gg := ((g1.trans g2).trans g3).trans g4
  refine ⟨⟨gg.os.trans h1.os, gg.tape.trans h1.tape, gg.output.trans h1.output, Nat.le_trans h1.size gg.size, fun k hk hne => ?_⟩, ?_⟩
  · exact (gg.block k (Nat.lt_of_lt_of_le hk h1.size) (by simp; omega)).trans (h1.block k hk hne)
  · exact (gg.block bp hp.lt (by simp; omega)).trans hp
set_option maxHeartbeats 4000000 in
theorem element_any (s : ByteArray) (i o : Nat) (m : Value) (bp : Nat) (w : World) (h : PB w bp s i o m) (hi : i ≤ s.size) (hs : s.size ≤ 65536) :
    Calls Tryz.prog 126 #[.pointer (some ⟨bp, 0, none⟩)] w fun e w' => Res (elemR (rest s i)) rangeV s i o m bp w e w' := by
  have hbp := h.lt
  have hb0 : Below w.heap.size w (w.alloc (.cells #[.int .u64 0, .int .u64 0, .int .u64 0, .int .u64 0] 24)) := (Below.refl _ _).alloc (Nat.le_refl _) _
  have hg0 : w.grownBy (w.alloc (.cells #[.int .u64 0, .int .u64 0, .int .u64 0, .int .u64 0] 24)) (some bp) := grown_of_below hb0
  have h0 := h.alloc (.cells #[.int .u64 0, .int .u64 0, .int .u64 0, .int .u64 0] 24)
  have hne : w.heap.size ≠ bp := by omega
  have ht0 : SetAt (w.alloc (.cells #[.int .u64 0, .int .u64 0, .int .u64 0, .int .u64 0] 24)) w.heap.size 0 := SetAt.zero w
  obtain ⟨p0, p1, p2, p3⟩ := h0.cells
  rcases ha : oneB plainC (rest s i) with _ | ⟨lo, n⟩
  · have hr : elemR (rest s i) = .error 0 := by simp [elemR, ha]
    rw [hr]
    go_enter Tryz.func126, Tryz.ntmps126
    go_wp2_with (first | (go_at_call 121; refine (oneByte_plainInClass_no s i o m bp _ h0 hi ha).mono ?_; rintro e w1 ⟨rfl, h1⟩))
    exact ⟨rfl, rfl, hg0.trans h1.1⟩
  · have hl := oneB_len ha
    have hn := rest_le hl.2.1 hi
    by_cases hv : seesB (rest s (i + n)) 45 = true
    · have hn1 := rest_le (sees_len hv) hn
      have hv2 := hv
      rw [rest_drop] at hv2
      rcases hb : oneB plainC (rest s (i + n + 1)) with _ | ⟨hi2, n2⟩
      · have hb2 := hb
        rw [Nat.add_assoc, rest_drop] at hb2
        have hr : elemR (rest s i) = .error (n + 1) := by simp [elemR, ha, hv2, hb2]
        rw [hr]
        go_enter Tryz.func126, Tryz.ntmps126
        go_wp2_with (first | (go_at_call 121; refine (oneByte_plainInClass s i o m bp _ h0 hi hs lo n ha).mono ?_; rintro e w1 ⟨rfl, h1⟩) | (go_at_call 97; refine (skip_any s 45 (i + n) o m bp _ h1.2 hn hs true hv).mono ?_; simp only [cond_true]; rintro e w2 ⟨rfl, h2⟩) | (go_at_call 121; refine (oneByte_plainInClass_no s (i + n + 1) o m bp _ h2.2 hn1 hb).mono ?_; rintro e w3 ⟨rfl, h3⟩))
        exact ⟨rfl, by rw [← Nat.add_assoc], hg0.trans ((h1.1.trans h2.1).trans h3.1)⟩
      · have hl2 := oneB_len hb
        have hb2 := hb
        rw [Nat.add_assoc, rest_drop] at hb2
        by_cases hlt : hi2 < lo
        · have hr : elemR (rest s i) = .error 0 := by simp [elemR, ha, hv2, hb2, hlt]
          rw [hr]
          have k1 : (hi2 : Int) < (lo : Int) := by omega
          go_enter Tryz.func126, Tryz.ntmps126
          go_wp2_with (first | (go_at_call 121; refine (oneByte_plainInClass s i o m bp _ h0 hi hs lo n ha).mono ?_; rintro e w1 ⟨rfl, h1⟩) | (go_at_call 97; refine (skip_any s 45 (i + n) o m bp _ h1.2 hn hs true hv).mono ?_; simp only [cond_true]; rintro e w2 ⟨rfl, h2⟩) | (go_at_call 121; refine (oneByte_plainInClass s (i + n + 1) o m bp _ h2.2 hn1 hs hi2 n2 hb).mono ?_; rintro e w3 ⟨rfl, h3⟩) | (go_at_call 80; refine (fail_any i _).mono ?_; rintro e w4 ⟨rfl, rfl⟩))
          exact ⟨rfl, rfl, hg0.trans ((h1.1.trans h2.1).trans h3.1)⟩
        · have hr : elemR (rest s i) = .ok ((lo, hi2), n + 1 + n2) := by simp [elemR, ha, hv2, hb2, hlt]
          rw [hr]
          have k1 : ¬ (hi2 : Int) < (lo : Int) := by omega
          go_enter Tryz.func126, Tryz.ntmps126
          go_wp2_with (first | (go_at_call 121; refine (oneByte_plainInClass s i o m bp _ h0 hi hs lo n ha).mono ?_; rintro e w1 ⟨rfl, h1⟩) | (go_at_call 97; refine (skip_any s 45 (i + n) o m bp _ h1.2 hn hs true hv).mono ?_; simp only [cond_true]; rintro e w2 ⟨rfl, h2⟩) | (go_at_call 121; refine (oneByte_plainInClass s (i + n + 1) o m bp _ h2.2 hn1 hs hi2 n2 hb).mono ?_; rintro e w3 ⟨rfl, h3⟩) | (go_at_call 122; refine (range_any lo hi2 (by omega) (by omega) _).mono ?_; rintro e w4 ⟨rfl, hb4⟩; have ht4 := SetAt.keep (bp := bp) (((h1.1.trans h2.1).trans h3.1).trans (grown_of_below hb4)) hne ht0; obtain ⟨r0, r1, r2, r3⟩ := ht4.cells; obtain ⟨k0, k1, k2, k3⟩ := ht4.free))
          exact bodyPost_ret (v := rangeV (_, _)) (by simp [results, Tryz.results126, go_sem, rangeV, *]) rfl ⟨rfl, PS.result4 (Nat.le_refl _) hbp hg0 (((h1.1.trans h2.1).trans h3.1).trans (grown_of_below hb4)) (by have := h3.2.below hb4; rwa [show i + n + 1 + n2 = i + (n + 1 + n2) from by omega] at this)⟩
    · rw [Bool.not_eq_true] at hv
      have hv2 := hv
      rw [rest_drop] at hv2
      have hr : elemR (rest s i) = .ok ((lo, lo), n) := by simp [elemR, ha, hv2]
      rw [hr]
      have k1 : ¬ (lo : Int) < (lo : Int) := by omega
      go_enter Tryz.func126, Tryz.ntmps126
      go_wp2_with (first | (go_at_call 121; refine (oneByte_plainInClass s i o m bp _ h0 hi hs lo n ha).mono ?_; rintro e w1 ⟨rfl, h1⟩) | (go_at_call 97; refine (skip_any s 45 (i + n) o m bp _ h1.2 hn hs false hv).mono ?_; simp only [cond_false]; rintro e w2 ⟨rfl, h2⟩) | (go_at_call 122; refine (range_any lo lo (by omega) (by omega) _).mono ?_; rintro e w4 ⟨rfl, hb4⟩; have ht4 := SetAt.keep (bp := bp) ((h1.1.trans h2.1).trans (grown_of_below hb4)) hne ht0; obtain ⟨r0, r1, r2, r3⟩ := ht4.cells; obtain ⟨k0, k1, k2, k3⟩ := ht4.free))
      exact bodyPost_ret (v := rangeV (_, _)) (by simp [results, Tryz.results126, go_sem, rangeV, *]) rfl ⟨rfl, PS.result4 (Nat.le_refl _) hbp hg0 ((h1.1.trans h2.1).trans (grown_of_below hb4)) (h2.2.below hb4)⟩
end Go.Proofs.YtkpfpegjapddfaaGreatDoor
