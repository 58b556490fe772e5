/- Texts that a proof rests on: Contract of pattern.Class. | strings.Builder within the printer: copyCheck, WriteByte, WriteString. -/
import Derived.Test.YtkpfpegjapddfaaGreatDoorK13
import Derived.Test.YtkpfpegjapddfaaGreatDoorK20
set_option maxRecDepth 20000
namespace Go.Proofs.YtkpfpegjapddfaaGreatDoor
open Go.RowKit

theorem cnt_none (s : BitVec 256) (h : fst s 0 = 256) : ∀ k, k ≤ 256 → cnt s k = 0
  | 0, _ => rfl
  | k + 1, hk => by
    have hb : s.getLsbD k = false := by
      rcases fst_cases s 0 with ⟨_, h1, _, _⟩ | ⟨_, h1⟩
      · omega
      · exact h1 k (by omega) (by omega)
    rw [cnt, cnt_none s h k (by omega), hb]
    rfl
theorem fst_one (s : BitVec 256) (h : cnt s 256 = 1) : fst s 0 < 256 := by
  rcases Nat.lt_or_ge (fst s 0) 256 with hl | hl
  · exact hl
  · have := cnt_none s (by have := fst_le s 0; omega) 256 (by omega)
    omega
/-- A set's text. -/
def classOut (s : BitVec 256) : List UInt8 := if cnt s 256 = 1 then byteOut (plainB (fst s 0)) (UInt8.ofNat (fst s 0)) else if s = dotS then [46] else clsOut s
theorem classOut_len (s : BitVec 256) : (classOut s).length ≤ 2307 := by
  unfold classOut
  split
  · have := byteOut_len (plainB (fst s 0)) (UInt8.ofNat (fst s 0)); omega
  · split
    · simp
    · exact clsOut_len s
theorem writeByte_nat (B b : Nat) (l : List UInt8) (c : Nat) (hc : c < 256) (w : World) (h : Bld w B b l) (hlen : l.length + 4 ≤ 99999) (hBw : B ≤ w.heap.size) :
    Calls Tryz.prog 28 #[.pointer (some ⟨b, 0, none⟩), .int .u8 (c : Int), .func (.func 29) #[] #[]] w fun e w' => Wrote w B b (l ++ byteOut (plainB c) (UInt8.ofNat c)) e w' := by
  have e1 : (UInt8.ofNat c).toNat = c := by simp; omega
  have := writeByte_plain B b l (UInt8.ofNat c) w h hlen hBw
  rw [e1] at this
  exact this
theorem first_zero (s : BitVec 256) (w : World) (hT : Tab w) (h : fst s 0 < 256) :
    Calls Tryz.prog 27 #[(.agg #[.int .u64 (wd (s) 0), .int .u64 (wd (s) 1), .int .u64 (wd (s) 2), .int .u64 (wd (s) 3)]), .int .i64 0] w fun e w' => e = .returned (.tuple #[.int .u8 (fst s 0), .bool true]) ∧ Below w.heap.size w w' := by
  have := first_nat s 0 0 (.inr rfl) (by omega) w hT
  rw [fstV_in h] at this
  exact this
theorem class_start (s : BitVec 256) (w : World) (hT : Tab w) : ∀ W, W = (w.alloc (.cells #[.int .u64 (wd s 0), .int .u64 (wd s 1), .int .u64 (wd s 2), .int .u64 (wd s 3)] 24)).alloc (.cells #[.pointer none, .slice none 0 0] 50) →
    SetAt W w.heap.size s ∧ Bld W (w.heap.size + 1) (w.heap.size + 1) [] ∧ Below w.heap.size w W ∧ Tab W ∧ 0 < w.heap.size + 1 ∧ w.heap.size + 1 ≤ W.heap.size ∧ w.heap.size ≠ w.heap.size + 1 := by
  rintro W rfl
  have hb : Below w.heap.size w ((w.alloc (.cells #[.int .u64 (wd s 0), .int .u64 (wd s 1), .int .u64 (wd s 2), .int .u64 (wd s 3)] 24)).alloc (.cells #[.pointer none, .slice none 0 0] 50)) := ((Below.refl _ _).alloc (Nat.le_refl _) _).alloc (by simp) _
  have hn := bld_new (w.alloc (.cells #[.int .u64 (wd s 0), .int .u64 (wd s 1), .int .u64 (wd s 2), .int .u64 (wd s 3)] 24))
  rw [World.size_alloc] at hn
  exact ⟨(SetAt.new w s).alloc _, hn, hb, hT.below hb, Nat.lt_succ_of_lt hT.1, by simp, by omega⟩
set_option maxHeartbeats 2000000 in
theorem class_text (s : BitVec 256) (w : World) (hT : Tab w) :
    Calls Tryz.prog 12 #[(.agg #[.int .u64 (wd (s) 0), .int .u64 (wd (s) 1), .int .u64 (wd (s) 2), .int .u64 (wd (s) 3)])] w fun e w' => e = .returned (.string ⟨(classOut s).toArray⟩) ∧ Below w.heap.size w w' := by
  go_enter Tryz.func12, Tryz.ntmps12
  go_wp2_with fail
  obtain ⟨w0, hw0⟩ : ∃ z, (w.alloc (.cells #[.int .u64 (wd s 0), .int .u64 (wd s 1), .int .u64 (wd s 2), .int .u64 (wd s 3)] 24)).alloc (.cells #[.pointer none, .slice none 0 0] 50) = z := ⟨_, rfl⟩
  obtain ⟨x0, h0, b0, hT0, hTB, z0, hne⟩ := class_start s w hT w0 hw0.symm
  rw [hw0]
  clear hw0
  have hm := Nat.le_succ w.heap.size
  generalize hn : w.heap.size = n at *
  have m0 := b0.mono (Nat.le_refl n)
  by_cases q : cnt s 256 = 1
  · have qd : ((cnt s 256 : Int) == 1) = true := by rw [q]; rfl
    have hout : classOut s = byteOut (plainB (fst s 0)) (UInt8.ofNat (fst s 0)) := by unfold classOut; rw [if_pos q]
    have hf := fst_one s q
    clear q
    go_wp2_with (first
      | (go_at_call 26; (with_reducible refine (count_any s _).mono ?_); rintro e w1 ⟨rfl, hb1⟩; have x1 := x0.grown hb1; obtain ⟨c0, c1, c2, c3⟩ := x1.cells; have h1 := h0.below hb1; have hT1 := hT0.below hb1; have z1 := Nat.le_trans z0 hb1.size)
      | (go_at_call 27; (with_reducible refine (first_zero s _ hT1 hf).mono ?_); rintro e w2 ⟨rfl, hb2⟩; have h2 := h1.below hb2; have z2 := Nat.le_trans z1 hb2.size)
      | (go_at_call 28; (with_reducible refine (writeByte_nat (n + 1) (n + 1) [] (fst s 0) hf _ h2 (by simp) z2).mono ?_); rintro e w3 ⟨rfl, h3, b3, k3⟩; have z3 := Nat.le_trans z2 b3.size)
      | (go_at_call 22; (with_reducible refine (string_bld (n + 1) (n + 1) _ _ h3 z3).mono ?_); rintro e w4 ⟨rfl, b4⟩))
    go_ret
    rw [hout]
    exact ⟨rfl, by rw [hn]; exact (((b0.trans (hb1.mono (by omega))).trans (hb2.mono (by omega))).trans (b3.mono hm)).trans (b4.mono hm)⟩
  · have qd : ((cnt s 256 : Int) == 1) = false := by rw [beq_eq_false_iff_ne]; omega
    by_cases hd : s = dotS
    · have hout : classOut s = [46] := by unfold classOut; rw [if_neg q, if_pos hd]
      have hq : ∀ w, (Op.equalIn 10000 24 (.agg #[.int .u64 (wd (s) 0), .int .u64 (wd (s) 1), .int .u64 (wd (s) 2), .int .u64 (wd (s) 3)]) (.agg #[.int .u64 (wd (dotS) 0), .int .u64 (wd (dotS) 1), .int .u64 (wd (dotS) 2), .int .u64 (wd (dotS) 3)])).run Tryz.prog w = .ok true w := fun w => by rw [eq_set, decide_eq_true hd]
      clear q hd
      go_wp2_with (first | (go_at_call 26; (with_reducible refine (count_any s _).mono ?_); rintro e w1 ⟨rfl, hb1⟩; have x1 := x0.grown hb1; obtain ⟨c0, c1, c2, c3⟩ := x1.cells; have h1 := h0.below hb1; have hT1 := hT0.below hb1; have z1 := Nat.le_trans z0 hb1.size) | fail)
      have x1d : SetAt w1.drew n s := x1
      have h1d : Bld w1.drew (n + 1) (n + 1) [] := h1
      have z1d : n + 1 ≤ w1.drew.heap.size := z1
      have hT1d : Tab w1.drew := hT1
      go_region_with (first
        | (go_at_call 30; refine (anyOfLine_any _).mono ?_; rintro e w2 ⟨rfl, hb2⟩; have x2 := x1d.grown hb2; obtain ⟨d0, d1, d2, d3⟩ := x2.cells; have h2 := h1d.below hb2; have z2 := Nat.le_trans z1d hb2.size; have hT2 := hT1d.below hb2))
      all_goals
        go_wp2_with (first
          | (go_at_call 31; (with_reducible refine (write_byte (n + 1) (n + 1) [] 46 46 (by decide) _ h2 (by simp) z2).mono ?_); rintro e w3 ⟨rfl, h3, b3, k3, z3⟩)
          | (go_at_call 22; (with_reducible refine (string_bld (n + 1) (n + 1) _ _ h3 z3).mono ?_); rintro e w4 ⟨rfl, b4⟩))
        go_ret
        rw [hout]
        exact ⟨rfl, by rw [hn]; exact ((((b0.trans (hb1.mono (by omega))).drew).trans (hb2.mono (Nat.le_trans hm z1d))).trans (b3.mono hm)).trans (b4.mono hm)⟩
    · have hout : classOut s = clsOut s := by unfold classOut; rw [if_neg q, if_neg hd]
      have hcl := clsOut_len s
      have hq : ∀ w, (Op.equalIn 10000 24 (.agg #[.int .u64 (wd (s) 0), .int .u64 (wd (s) 1), .int .u64 (wd (s) 2), .int .u64 (wd (s) 3)]) (.agg #[.int .u64 (wd (dotS) 0), .int .u64 (wd (dotS) 1), .int .u64 (wd (dotS) 2), .int .u64 (wd (dotS) 3)])).run Tryz.prog w = .ok false w := fun w => by rw [eq_set, decide_eq_false hd]
      clear q hd
      go_wp2_with (first | (go_at_call 26; (with_reducible refine (count_any s _).mono ?_); rintro e w1 ⟨rfl, hb1⟩; have x1 := x0.grown hb1; obtain ⟨c0, c1, c2, c3⟩ := x1.cells; have h1 := h0.below hb1; have hT1 := hT0.below hb1; have z1 := Nat.le_trans z0 hb1.size) | fail)
      have x1d : SetAt w1.drew n s := x1
      have h1d : Bld w1.drew (n + 1) (n + 1) [] := h1
      have z1d : n + 1 ≤ w1.drew.heap.size := z1
      have hT1d : Tab w1.drew := hT1
      go_region_with (first
        | (go_at_call 30; refine (anyOfLine_any _).mono ?_; rintro e w2 ⟨rfl, hb2⟩; have x2 := x1d.grown hb2; obtain ⟨d0, d1, d2, d3⟩ := x2.cells; have h2 := h1d.below hb2; have z2 := Nat.le_trans z1d hb2.size; have hT2 := hT1d.below hb2))
      all_goals
        go_wp2_with (first
          | (go_at_call 32; (with_reducible refine (writeClass_any (n + 1) (n + 1) [] s _ h2 (by simp) z2 hT2 hTB).mono ?_); rintro e w3 ⟨rfl, h3, b3, k3⟩; have z3 := Nat.le_trans z2 b3.size)
          | (go_at_call 22; (with_reducible refine (string_bld (n + 1) (n + 1) _ _ h3 z3).mono ?_); rintro e w4 ⟨rfl, b4⟩))
        go_ret
        rw [hout]
        exact ⟨rfl, by rw [hn]; exact ((((b0.trans (hb1.mono (by omega))).drew).trans (hb2.mono (Nat.le_trans hm z1d))).trans (b3.mono hm)).trans (b4.mono hm)⟩
end Go.Proofs.YtkpfpegjapddfaaGreatDoor
set_option maxRecDepth 20000
namespace Go.Proofs.YtkpfpegjapddfaaGreatDoor
open Go.RowKit

/-- Block b holds a printer whose text is l, with the map m. -/
def PrB (w : World) (B b : Nat) (l : List UInt8) (m : Value) : Prop := B ≤ b ∧ ∃ p v, w.heap[b]? = some (.cells #[p, v, m] 52 (0, 0)) ∧ (p = .pointer none ∨ p = .pointer (some ⟨b, 0, none⟩)) ∧ w.ownsRowF B 5 1 v l.length (Lib.byteCells l)
theorem PrB.lt {w : World} {B b : Nat} {l : List UInt8} {m : Value} (h : PrB w B b l m) : b < w.heap.size := by
  obtain ⟨_, p, v, hb, _⟩ := h
  exact lt_of_block hb
/-- What a writer leaves. -/
def PW (w : World) (B b : Nat) (l : List UInt8) (m : Value) (w' : World) : Prop := PrB w' B b l m ∧ Below B w w' ∧ Lib.OthersKept 5 (some b) w w' ∧ B ≤ w'.heap.size
theorem PrB.below {w w' : World} {B b : Nat} {l : List UInt8} {m : Value} (h : PrB w B b l m) (hb : Below w.heap.size w w') : PrB w' B b l m := by
  have hlt := h.lt
  obtain ⟨hB, p, v, h1, h2, h3⟩ := h
  refine ⟨hB, p, v, (hb.block b hlt).trans h1, h2, ⟨h3.1, ?_⟩⟩
  rcases h3.2 with hn | ⟨g, cap, cur, fz, hv, hg, hgb, rest⟩
  · exact .inl hn
  · exact .inr ⟨g, cap, cur, fz, hv, hg, (hb.block g (lt_of_block hgb)).trans hgb, rest⟩
theorem PrB.drew {w : World} {B b : Nat} {l : List UInt8} {m : Value} (h : PrB w B b l m) : PrB w.drew B b l m := h
theorem printer_lies : liesAt Tryz.prog Tryz.prog.depth 52 (3 / Tryz.prog.cellsOf 52) 0 50 1 = true := by kernel_rfl
theorem pcopy_fresh (b : Nat) (w : World) (h0 : w.cell? ⟨b, 0, none⟩ = some (.pointer none)) (hsh : w.shape? b = some (52, 3)) (hfz : w.frozen? ⟨b, 0, none⟩ = false) :
    Calls Tryz.prog 57 #[.pointer (some ⟨b, 0, none⟩)] w fun e w' => e = .returned (.tuple #[]) ∧ w' = w.setCell ⟨b, 0, none⟩ (.pointer (some ⟨b, 0, none⟩)) := by
  obtain ⟨j, hj, hjs⟩ := Option.map_eq_some_iff.1 builder_size
  have hto := Lib.run_to_unsafe w ⟨b, 0, none⟩ Tryz.underlying47 Tryz.underlying104 hj (of_decide_eq_false hjs) hsh (Nat.zero_lt_succ 2)
  have hfrom := Lib.run_from_unsafe w ⟨b, 0, none⟩ Tryz.underlying104 Tryz.underlying47 hj hsh printer_lies
  have hno : ∀ (x : Value) (w : World), (callFunc 75 #[x]).run Tryz.prog w = .ok (.value x) w := fun x w => by
    rw [run_callFunc_extern Tryz.func75 (by kernel_rfl) (by kernel_rfl) (by kernel_rfl) (e := Extern.AbiNoEscape.same) (by kernel_rfl), Lib.run_noEscape]
    rfl
  have hne : ∀ w : World, (binOp .neq 47 (.pointer (some ⟨b, 0, none⟩)) (.pointer (some ⟨b, 0, none⟩))).run Tryz.prog w = .ok (.bool false) w := fun w => Lib.run_neq_ptr_same w ⟨b, 0, none⟩ Tryz.underlying47 hj
  go_enter Tryz.func57, Tryz.ntmps57
  go_wp2
  go_end0
  exact ⟨rfl, rfl⟩
theorem pcopy_any (B b : Nat) (l : List UInt8) (m : Value) (w : World) (h : PrB w B b l m) :
    Calls Tryz.prog 57 #[.pointer (some ⟨b, 0, none⟩)] w fun e w' => e = .returned (.tuple #[]) ∧ ((∃ v, w'.heap[b]? = some (.cells #[.pointer (some ⟨b, 0, none⟩), v, m] 52 (0, 0)) ∧ w'.ownsRowF B 5 1 v l.length (Lib.byteCells l)) ∧ Below B w w' ∧ Lib.OthersKept 5 (some b) w w') := by
  obtain ⟨hB, p, v, hb, hp, hown⟩ := h
  rcases hp with rfl | rfl
  · refine (pcopy_fresh b w (by rw [Lib.cell_of_heap hb]; rfl) (by simp [World.shape?, hb]) (Lib.frozen_of_heap hb 0)).mono ?_
    rintro e w' ⟨rfl, rfl⟩
    refine ⟨rfl, ⟨v, ?_, ?_⟩, (Below.refl B w).setCell (p := ⟨b, 0, none⟩) hB _, (Lib.OthersKept.refl _ _ w).setCell ⟨b, 0, none⟩ rfl _⟩
    · simp [World.setCell, Array.getElem?_modify, hb]
    · exact hown.kept (row := some b) ⟨rfl, rfl, rfl, by simp [World.setCell], fun k _ hk => Below.heap_setCell _ _ _ _ (fun e => hk (by simp [e]))⟩ (Or.inr (Lib.ownBlock_neF hown hb (by decide)))
  · refine (copy_used b w (by rw [Lib.cell_of_heap hb]; rfl)).mono ?_
    rintro e w' ⟨rfl, rfl⟩
    exact ⟨rfl, ⟨v, hb, hown⟩, Below.refl B _, Lib.OthersKept.refl _ _ _⟩
theorem pr_put {B b : Nat} {p v v' m : Value} {l' : List UInt8} {w : World} (hB : B ≤ b) (hb : w.heap[b]? = some (.cells #[p, v, m] 52 (0, 0))) (hp : p = .pointer (some ⟨b, 0, none⟩)) (hown : w.ownsRowF B 5 1 v' l'.length (Lib.byteCells l')) :
    PrB (w.setCell ⟨b, 1, none⟩ v') B b l' m := by
  have hne := Lib.ownBlock_neF hown hb (by decide)
  refine ⟨hB, p, v', ?_, .inr hp, ?_⟩
  · simp [World.setCell, Array.getElem?_modify, hb]
  · exact hown.kept (row := some b) ⟨rfl, rfl, rfl, by simp [World.setCell], fun k _ hk => Below.heap_setCell _ _ _ _ (fun e => hk (by simp [e]))⟩ (Or.inr hne)
set_option maxHeartbeats 2000000 in
theorem wb_pr (B b : Nat) (l : List UInt8) (m : Value) (c : UInt8) (n : Int) (hc : n = (c.toNat : Int)) (w : World) (h : PrB w B b l m) (hlen : l.length + 1 ≤ 99999999) (hBw : B ≤ w.heap.size) :
    Calls Tryz.prog 31 #[.pointer (some ⟨b, 0, none⟩), .int .u8 n] w fun e w' => e = .returned .nilIface ∧ PW w B b (l ++ [c]) m w' := by
  subst hc
  have hB := h.1
  obtain ⟨i0, hi, hz0, hz1, hz2⟩ := info_parts infoB8
  go_enter Tryz.func31, Tryz.ntmps31
  go_wp2_with (go_at_call 57; refine (pcopy_any B b l m _ h).mono ?_)
  rintro e w1 ⟨rfl, ⟨v, hbk, hown⟩, hb1, hk1⟩
  have hne := Lib.ownBlock_neF hown hbk (by decide)
  have c0 : w1.cell? ⟨b, 0, none⟩ = some (.pointer (some ⟨b, 0, none⟩)) := by rw [Lib.cell_of_heap hbk]; rfl
  have c1 : w1.cell? ⟨b, 1, none⟩ = some v := by rw [Lib.cell_of_heap hbk]; rfl
  have hlt := lt_of_block hbk
  go_wp2_with (at_builtin; refine wpList_append_ownF _ rfl _ _ 48 rfl B 5 i0 (.int .u8 0) 1 1 Tryz.underlying48 hi hz0 hz1 hz2 rfl (by decide) _ _ _ rfl (hown.alloc _) ⟨w1.heap.size, 0, none⟩ 1 1 [.int .u8 c.toNat] rfl rfl ?_ ?_ ?_ ?_ ?_ ?_)
  · intro j u hj
    rcases j with _ | j
    · simp at hj
      subst hj
      simp [Addr.add]
    · simp at hj
  · intro u hu
    simp at hu
    subst hu
    rfl
  · unfold maxLen
    omega
  · omega
  · have := hb1.size
    simp
    omega
  intro v2 w2 hown2 hgrow _
  have hb2 : w2.heap[b]? = some (.cells #[.pointer (some ⟨b, 0, none⟩), v, m] 52 (0, 0)) := by
    rw [hgrow.block b (by simp; omega) (fun e => hne e.symm), Lib.alloc_old w1 _ b hlt]
    exact hbk
  have d0 : w2.cell? ⟨b, 0, none⟩ = some (.pointer (some ⟨b, 0, none⟩)) := by rw [Lib.cell_of_heap hb2]; rfl
  have d1 : w2.cell? ⟨b, 1, none⟩ = some v := by rw [Lib.cell_of_heap hb2]; rfl
  have f1 : w2.frozen? ⟨b, 1, none⟩ = false := Lib.frozen_of_heap hb2 1
  obtain ⟨g, cap, rfl⟩ : ∃ g cap, v2 = .slice (some ⟨g, 0, none⟩) (l.length + 1) cap := by
    rcases hown2.2 with ⟨_, h0⟩ | ⟨g, cap, cur, fz, hv, _⟩
    · omega
    · exact ⟨g, cap, hv⟩
  go_wp2
  go_ret
  have hs1 := hb1.size
  have hBl : Below B w (w2.setCell ⟨b, 1, none⟩ (.slice (some ⟨g, 0, none⟩) (l.length + 1) cap)) := ((hb1.alloc (by omega) _).grown hgrow (by simp; omega) (fun k hk => (hown.lt k hk).1)).setCell (p := ⟨b, 1, none⟩) hB _
  refine ⟨rfl, pr_put hB hb2 rfl ?_, hBl, ((hk1.alloc _).grown hgrow (Lib.ownsRowF_kind (hown.alloc _))).setCell ⟨b, 1, none⟩ rfl _, Nat.le_trans hBw hBl.size⟩
  rw [← byteCells_snoc]
  simpa using hown2
set_option maxHeartbeats 2000000 in
theorem ws_pr (B b : Nat) (l : List UInt8) (m : Value) (z : ByteArray) (w : World) (h : PrB w B b l m) (hlen : l.length + z.size ≤ 99999999) (hBw : B ≤ w.heap.size) :
    Calls Tryz.prog 43 #[.pointer (some ⟨b, 0, none⟩), .string z] w fun e w' => e = .returned (.tuple #[.int .i64 z.size, .nilIface]) ∧ PW w B b (l ++ z.data.toList) m w' := by
  have hB := h.1
  obtain ⟨i0, hi, hz0, hz1, hz2⟩ := info_parts infoB8
  go_enter Tryz.func43, Tryz.ntmps43
  go_wp2_with (go_at_call 57; refine (pcopy_any B b l m _ h).mono ?_)
  rintro e w1 ⟨rfl, ⟨v, hbk, hown⟩, hb1, hk1⟩
  have hne := Lib.ownBlock_neF hown hbk (by decide)
  have c0 : w1.cell? ⟨b, 0, none⟩ = some (.pointer (some ⟨b, 0, none⟩)) := by rw [Lib.cell_of_heap hbk]; rfl
  have c1 : w1.cell? ⟨b, 1, none⟩ = some v := by rw [Lib.cell_of_heap hbk]; rfl
  go_wp2_with (at_builtin; refine Lib.wpList_append_own_stringF _ rfl _ _ 48 9 rfl B 5 i0 Tryz.underlying48 Tryz.underlying9 hi hz0 hz1 hz2 _ _ _ rfl hown z rfl ?c3 ?c4 ?c5 ?_)
  case c3 => unfold maxLen; omega
  case c4 => omega
  case c5 => have := hb1.size; omega
  intro v' w2 hown' hgrow _
  have hlt := lt_of_block hbk
  have hb2 : w2.heap[b]? = some (.cells #[.pointer (some ⟨b, 0, none⟩), v, m] 52 (0, 0)) := by
    rw [hgrow.block b hlt (fun e => hne e.symm)]
    exact hbk
  have d0 : w2.cell? ⟨b, 0, none⟩ = some (.pointer (some ⟨b, 0, none⟩)) := by rw [Lib.cell_of_heap hb2]; rfl
  have d1 : w2.cell? ⟨b, 1, none⟩ = some v := by rw [Lib.cell_of_heap hb2]; rfl
  have f1 : w2.frozen? ⟨b, 1, none⟩ = false := Lib.frozen_of_heap hb2 1
  obtain ⟨ao, n', cap, rfl⟩ : ∃ ao n' cap, v' = .slice ao n' cap := by
    rcases hown'.2 with ⟨hv, _⟩ | ⟨g, cap, cur, fz, hv, _⟩
    · exact ⟨_, _, _, hv⟩
    · exact ⟨_, _, _, hv⟩
  go_wp2
  go_ret2
  have hBl : Below B w (w2.setCell ⟨b, 1, none⟩ (.slice ao n' cap)) := (hb1.grown hgrow (by have := hb1.size; omega) (fun k hk => (hown.lt k hk).1)).setCell (p := ⟨b, 1, none⟩) hB _
  refine ⟨rfl, pr_put hB hb2 rfl ?_, hBl, (hk1.grown hgrow (Lib.ownsRowF_kind hown)).setCell ⟨b, 1, none⟩ rfl _, Nat.le_trans hBw hBl.size⟩
  have e : Lib.byteCells l ++ Lib.strCells z = Lib.byteCells (l ++ z.data.toList) := by simp [Lib.byteCells, Lib.strCells]
  rw [← e]
  simpa using hown'
end Go.Proofs.YtkpfpegjapddfaaGreatDoor
