/- Texts that a proof rests on: Contract: the reference's Arcs: the longest runs of bytes that lead to the same. -/
import Derived.Test.YtamgldhnfcikbaaK05
import Derived.Test.YtamgldhnfcikbaaK04
import Derived.Deep.AppendLies
set_option maxRecDepth 100000
namespace Go.Proofs.Ytamgldhnfcikbaa
open List (getElem_toArray getElem_cons_succ getElem_cons_zero setIfInBounds_toArray set_cons_zero set_cons_succ)
open Go.RowKit

def flatA (l : List Arc3) : List Value := l.flatMap fun a => [.int .u8 a.lo, .int .u8 a.hi, .int .i64 a.dest]
theorem flatA_snoc (l : List Arc3) (a : Arc3) : flatA (l ++ [a]) = flatA l ++ [.int .u8 a.lo, .int .u8 a.hi, .int .i64 a.dest] := by simp [flatA]
theorem flatA_length (l : List Arc3) : (flatA l).length = l.length * 3 := by
  induction l with
  | nil => rfl
  | cons q l ih => simp [flatA] at ih ⊢; omega
theorem flatA_last (l : List Arc3) (a : Arc3) (i : Nat) : (flatA (l ++ [a]))[l.length * 3 + i]? = [Value.int .u8 a.lo, .int .u8 a.hi, .int .i64 a.dest][i]? := by
  rw [flatA_snoc, ← flatA_length, List.getElem?_append_right (Nat.le_add_right _ _), Nat.add_sub_cancel_left]
theorem flatA_set (l : List Arc3) (a : Arc3) (b : Nat) : (flatA (l ++ [a])).set (l.length * 3 + 1) (.int .u8 b) = flatA (l ++ [⟨a.lo, b, a.dest⟩]) := by
  rw [flatA_snoc, flatA_snoc, ← flatA_length, List.set_append_right _ _ (Nat.le_add_right _ _), Nat.add_sub_cancel_left]
  rfl
theorem flatA_at (l : List Arc3) : ∀ i (h : i < l.length) j, (j < 3) → (flatA l)[i * 3 + j]? = [Value.int .u8 l[i].lo, .int .u8 l[i].hi, .int .i64 l[i].dest][j]? := by
  induction l with
  | nil => intro i h; simp at h
  | cons q l ih =>
    intro i h j hj
    have e : flatA (q :: l) = [.int .u8 q.lo, .int .u8 q.hi, .int .i64 q.dest] ++ flatA l := rfl
    rw [e]
    cases i with
    | zero => rw [List.getElem?_append_left (by simpa using hj)]; simp
    | succ i =>
      rw [List.getElem?_append_right (by simp; omega)]
      have := ih i (by simpa using h) j hj
      rw [show (i + 1) * 3 + j - [Value.int .u8 q.lo, .int .u8 q.hi, .int .i64 q.dest].length = i * 3 + j from by simp; omega, this]
      simp
theorem arcs_of_row {w : World} {B : Nat} {v : Value} {l : List Arc3} (h : w.ownsRow B 38 3 v l.length (flatA l)) : ArcsAt w v l := by
  have h0 := h
  rcases h.2 with ⟨rfl, h1⟩ | ⟨g, cap, cur, rfl, _⟩
  · have : l = [] := List.eq_nil_of_length_eq_zero h1
    subst this; exact ArcsAt.nil w
  · refine ⟨_, cap, rfl, fun i hi => ⟨g, 0, rfl, ?_, ?_, ?_⟩⟩
    · rw [Nat.zero_add]; have := h0.cellAt (i * 3) (by omega); rw [this]; have := flatA_at l i hi 0 (by omega); simpa using this
    · rw [Nat.zero_add, h0.cellAt (i * 3 + 1) (by omega), flatA_at l i hi 1 (by omega)]; rfl
    · rw [Nat.zero_add, h0.cellAt (i * 3 + 2) (by omega), flatA_at l i hi 2 (by omega)]; rfl
def Ints (f : Nat → Int) : Array Value := ((List.range 256).map fun i => Value.int .i64 (f i)).toArray
theorem ints_at {i : Nat} (f : Nat → Int) (h : i < 256) : (Ints f)[i]? = some (.int .i64 (f i)) := by simp [Ints, h]
def IBlk (w : World) (b : Nat) (f : Nat → Int) : Prop := w.heap[b]? = some (.cells (Ints f) 49 (0, 0))
theorem IBlk.cell {w : World} {b i : Nat} {f : Nat → Int} (h : IBlk w b f) (hi : i < 256) : w.cell? ⟨b, i, none⟩ = some (.int .i64 (f i)) := by
  rw [cell_of_row w b _ _ _ _ h, ints_at f hi]
theorem IBlk.lt {w : World} {b : Nat} {f : Nat → Int} (h : IBlk w b f) : b < w.heap.size := lt_of_block h
theorem IBlk.below {w w' : World} {b : Nat} {f : Nat → Int} (h : IBlk w b f) (hb : Below w.heap.size w w') : IBlk w' b f := (hb.block b h.lt).trans h
theorem IBlk.other {w : World} {b : Nat} {f : Nat → Int} (h : IBlk w b f) {a : Addr} (ha : b ≠ a.block) (u : Value) : IBlk (w.setCell a u) b f := by
  unfold IBlk
  rw [Below.heap_setCell _ _ _ _ ha]; exact h
theorem iblk_push {B b n sz : Nat} {e : TypeId} {w w7 w8 : World} {v : Value} {xs : List Value} {f : Nat → Int} (h : IBlk w b f) (hrow : w.ownsRow B e sz v n xs) (hb : b < B) (h7 : Below w.heap.size w w7) (hg : w7.grownBy w8 v.ownBlock) : IBlk w8 b f := by
  have h1 := h.below h7
  have h9 := h1.lt
  unfold IBlk at *
  rw [hg.block b h9 (fun e => by have := (hrow.lt b e.symm).1; omega)]
  exact h1
theorem push3 {N B n sz : Nat} {e : TypeId} {w0 w w7 w8 : World} {v : Value} {xs : List Value} (h : Below N w0 w) (hrow : w.ownsRow B e sz v n xs) (hB : N ≤ B) (hN : N ≤ w.heap.size) (h7 : Below w.heap.size w w7) (hg : w7.grownBy w8 v.ownBlock) : Below N w0 w8 :=
  (h.trans (h7.mono hN)).grown hg (by have := h7.size; omega) (fun k hk => by have := (hrow.lt k hk).1; omega)
theorem row_form {w : World} {B n sz : Nat} {e : TypeId} {v : Value} {l : List Value} (h : w.ownsRow B e sz v n l) : ∃ a cp, v = .slice a n cp := by
  rcases h.2 with ⟨rfl, rfl⟩ | ⟨g, cap, cur, rfl, _⟩
  · exact ⟨_, _, rfl⟩
  · exact ⟨_, _, rfl⟩
theorem infoArc : (Try.prog.info? 38).map (fun i => (i.zero, i.size, i.bytes)) = some (some (.agg #[.int .u8 0, .int .u8 0, .int .i64 0]), 3, 16) := by kernel_rfl
theorem arcPut_neg {l : List Arc3} {b : Nat} {t : Int} (h : t < 0) : arcPut l b t = l := by unfold arcPut; rw [if_pos h]
theorem arcPut_nil {b : Nat} {t : Int} (h : ¬ t < 0) : arcPut [] b t = [⟨b, b, t⟩] := by unfold arcPut; rw [if_neg h]; rfl
theorem arcPut_new {l : List Arc3} {x : Arc3} {b : Nat} {t : Int} (h : ¬ t < 0) (hx : ¬ (x.hi + 1 = b ∧ x.dest = t)) : arcPut (l ++ [x]) b t = (l ++ [x]) ++ [⟨b, b, t⟩] := by
  unfold arcPut
  rw [if_neg h, List.getLast?_append, List.getLast?_singleton, Option.some_or]
  simp only [if_neg hx]
theorem arcPut_same {l : List Arc3} {x : Arc3} {b : Nat} {t : Int} (h : ¬ t < 0) (hx : x.hi + 1 = b ∧ x.dest = t) : arcPut (l ++ [x]) b t = l ++ [⟨x.lo, b, x.dest⟩] := by
  unfold arcPut
  rw [if_neg h, List.getLast?_append, List.getLast?_singleton, Option.some_or]
  simp only []
  rw [if_pos hx, List.dropLast_concat, hx.2]
theorem arc_cases (l : List Arc3) : l = [] ∨ ∃ l' x, l = l' ++ [x] := by
  rcases List.eq_nil_or_concat l with h | ⟨l', x, h⟩
  · exact .inl h
  · exact .inr ⟨l', x, by simpa using h⟩
set_option linter.unusedSimpArgs false in
set_option maxHeartbeats 8000000 in
theorem rarcs07_any (f : Nat → Int) (w : World) (hf : ∀ i, i < 256 → -9223372036854775808 ≤ f i ∧ f i < 9223372036854775808) :
    Calls Try.prog 29 #[.agg (Ints f)] w fun e w' => ∃ v, e = .returned v ∧ Hid (w'.ownsRow w.heap.size 38 3 v (arcsS f).length (flatA (arcsS f))) ∧ Hid (Below w.heap.size w w') := by
  have mixed : Try.prog.follows .mixedOrders = true := by kernel_rfl
  obtain ⟨i0, hi0, hz0, hz1, hz2⟩ := info_parts infoArc
  have HI := Lib.hid (And.intro hi0 (And.intro hz0 (And.intro hz1 hz2)))
  clear hi0 hz0 hz1 hz2
  have HF := Lib.hid hf
  clear hf
  obtain ⟨B0, hB⟩ : ∃ B, w.heap.size = B := ⟨_, rfl⟩
  have hB1 : B0 < B0 + 1 := Nat.lt_succ_self _
  have HBL0 : Hid (IBlk (w.alloc (.cells (Ints f) 49)) B0 f) := Lib.hid (by rw [← hB]; exact heap_alloc_new w _)
  have HBW : Hid (Below B0 w (w.alloc (.cells (Ints f) 49))) := Lib.hid ((Below.refl _ _).alloc (by omega) _)
  have HROW0 : Hid ((w.alloc (.cells (Ints f) 49)).ownsRow (B0 + 1) 38 3 (.slice none 0 0) (arcsUp f 0).length (flatA (arcsUp f 0))) := Lib.hid (World.ownsRow_nil _ _ _ _)
  have hsz0 : B0 + 1 ≤ (w.alloc (.cells (Ints f) 49)).heap.size := by simp; omega
  obtain ⟨I9, hI9⟩ : ∃ I9, Ints f = I9 := ⟨_, rfl⟩
  rw [hI9] at HBL0 HBW HROW0 hsz0
  rw [hB, hI9]
  go_enter Try.func29, Try.ntmps29
  go_wp2
  go_loopw [3, 4] (fun v x wr => ∃ (k : Nat), x = .int .i64 k ∧ k ≤ 256 ∧ B0 + 1 ≤ wr.heap.size ∧ Hid (wr.ownsRow (B0 + 1) 38 3 v (arcsUp f k).length (flatA (arcsUp f k))) ∧ Hid (IBlk wr B0 f) ∧ Hid (Below B0 w wr)) (fun _ x _ => 256 - (intOf x).toNat)
  case atStart => exact ⟨0, rfl, Nat.zero_le _, hsz0, HROW0, HBL0, HBW⟩
  case round =>
    clear HROW0 HBL0 HBW hsz0
    obtain ⟨k, rfl, hk, hBr, HROW, HBL, HBR⟩ := hrel
    by_cases hlt : k < 256
    · have hd : decide ((k : Int) < 256) = true := decide_eq_true (by omega)
      have c0 := HBL.out.cell hlt
      have hfk := HF.out k hlt
      have HPUT := Lib.hid (show arcsUp f (k + 1) = arcPut (arcsUp f k) k (f k) from rfl)
      have hlen := arcsUp_len f k
      generalize f k = t at *
      by_cases hneg : t < 0
      · have d0 : decide (t < 0) = true := decide_eq_true hneg
        have HNO := Lib.hid (HPUT.out.trans (arcPut_neg hneg))
        go_wp2
        go_roundw
        case rel => exact ⟨k + 1, num_succ k, by omega, hBr, by rw [HNO.out]; exact HROW, HBL, HBR⟩
        case measure => simp [intOf]; omega
      · have d0 : decide (t < 0) = false := decide_eq_false hneg
        have HBD : Hid (Below B0 w wr.drew) := Lib.hid (HBR.out.trans ((Below.refl wr.heap.size wr).drew.mono (by omega)))
        obtain ⟨ls, hls⟩ : ∃ ls, arcsUp f k = ls := ⟨_, rfl⟩
        have HLAST := Lib.hid (arcsUp_last f k)
        rw [hls] at HPUT hlen HROW HLAST
        clear hls
        rcases arc_cases ls with rfl | ⟨lp, x, rfl⟩
        · have HNEW := Lib.hid (HPUT.out.trans (arcPut_nil hneg))
          have HRA := Lib.hid ((HROW.out.alloc (.cells #[.int .u8 k, .int .u8 k, .int .i64 t] 38)).drew)
          obtain ⟨a3, cp3, rfl⟩ := row_form HROW.out
          have hln : ([] : List Arc3).length = 0 := rfl
          have HFL := Lib.hid (show flatA [⟨k, k, t⟩] = flatA [] ++ [.int .u8 k, .int .u8 k, .int .i64 t] from rfl)
          have HLN := Lib.hid (show ([⟨k, k, t⟩] : List Arc3).length = 0 + 1 from rfl)
          rw [hln] at hlen HROW HRA
          clear hneg HPUT
          go_wp2
          refine region_goes 126 26 rfl (fun W => W.cell? ⟨B0, k, none⟩ = some (.int .i64 t)) mixed c0 (fun hHeld => ?_)
          refine goes_take0 (i := 0) (v := ?hv1) rfl (by kernel_rfl) (by kernel_rfl) (by kernel_rfl) rfl (fun _ _ _ h => h) (Or.inl ⟨by rfl, ?hy1⟩) (by assumption) ?hr1
          case hy1 => (intro W9 hW9; have k0 := hW9; first | (go_simp; done) | (go_simp; with_reducible rfl))
          simp only [Act.put, getElem_toArray, getElem_cons_succ, getElem_cons_zero, setIfInBounds_toArray, set_cons_zero, set_cons_succ]
          refine goes_take0 (i := 1) (v := (.bool false)) rfl (by kernel_rfl) (by kernel_rfl) (by kernel_rfl) rfl (fun _ _ _ h => h) (Or.inl ⟨by rfl, ?hy2⟩) (by assumption) ?hr2
          case hy2 => (intro W9 hW9; have k0 := hW9; first | (go_simp; done) | (go_simp; with_reducible rfl))
          simp only [Act.put, getElem_toArray, getElem_cons_succ, getElem_cons_zero, setIfInBounds_toArray, set_cons_zero, set_cons_succ]
          refine goes_take0 (i := 2) (v := (.bool false)) rfl (by kernel_rfl) (by kernel_rfl) (by kernel_rfl) rfl (fun _ _ _ h => h) (Or.inl ⟨by rfl, ?hy3⟩) (by assumption) ?hr3
          case hy3 => (intro W9 hW9; have k0 := hW9; first | (go_simp; done) | (go_simp; with_reducible rfl))
          simp only [Act.put, getElem_toArray, getElem_cons_succ, getElem_cons_zero, setIfInBounds_toArray, set_cons_zero, set_cons_succ]
          refine goes_take0 (i := 3) (v := undef) rfl (by kernel_rfl) (by kernel_rfl) (by kernel_rfl) rfl (fun _ _ _ h => h) (Or.inr ⟨by rfl, rfl⟩) (by assumption) ?_
          simp only [Act.put, getElem_toArray, getElem_cons_succ, getElem_cons_zero, setIfInBounds_toArray, set_cons_zero, set_cons_succ]
          refine goes_take0 (i := 4) (v := undef) rfl (by kernel_rfl) (by kernel_rfl) (by kernel_rfl) rfl (fun _ _ _ h => h) (Or.inr ⟨by rfl, rfl⟩) (by assumption) ?_
          simp only [Act.put, getElem_toArray, getElem_cons_succ, getElem_cons_zero, setIfInBounds_toArray, set_cons_zero, set_cons_succ]
          refine goes_take0 (i := 5) (v := undef) rfl (by kernel_rfl) (by kernel_rfl) (by kernel_rfl) rfl (fun _ _ _ h => h) (Or.inr ⟨by rfl, rfl⟩) (by assumption) ?_
          simp only [Act.put, getElem_toArray, getElem_cons_succ, getElem_cons_zero, setIfInBounds_toArray, set_cons_zero, set_cons_succ]
          refine goes_take0 (i := 6) (v := undef) rfl (by kernel_rfl) (by kernel_rfl) (by kernel_rfl) rfl (fun _ _ _ h => h) (Or.inr ⟨by rfl, rfl⟩) (by assumption) ?_
          simp only [Act.put, getElem_toArray, getElem_cons_succ, getElem_cons_zero, setIfInBounds_toArray, set_cons_zero, set_cons_succ]
          refine goes_take0 (i := 7) (v := undef) rfl (by kernel_rfl) (by kernel_rfl) (by kernel_rfl) rfl (fun _ _ _ h => h) (Or.inr ⟨by rfl, rfl⟩) (by assumption) ?_
          simp only [Act.put, getElem_toArray, getElem_cons_succ, getElem_cons_zero, setIfInBounds_toArray, set_cons_zero, set_cons_succ]
          refine goes_take0 (i := 8) (v := undef) rfl (by kernel_rfl) (by kernel_rfl) (by kernel_rfl) rfl (fun _ _ _ h => h) (Or.inr ⟨by rfl, rfl⟩) (by assumption) ?_
          simp only [Act.put, getElem_toArray, getElem_cons_succ, getElem_cons_zero, setIfInBounds_toArray, set_cons_zero, set_cons_succ]
          refine goes_take0 (i := 9) (v := undef) rfl (by kernel_rfl) (by kernel_rfl) (by kernel_rfl) rfl (fun _ _ _ h => h) (Or.inr ⟨by rfl, rfl⟩) (by assumption) ?_
          simp only [Act.put, getElem_toArray, getElem_cons_succ, getElem_cons_zero, setIfInBounds_toArray, set_cons_zero, set_cons_succ]
          refine goes_take0 (i := 10) (v := undef) rfl (by kernel_rfl) (by kernel_rfl) (by kernel_rfl) rfl (fun _ _ _ h => h) (Or.inr ⟨by rfl, rfl⟩) (by assumption) ?_
          simp only [Act.put, getElem_toArray, getElem_cons_succ, getElem_cons_zero, setIfInBounds_toArray, set_cons_zero, set_cons_succ]
          refine goes_take0 (i := 11) (v := undef) rfl (by kernel_rfl) (by kernel_rfl) (by kernel_rfl) rfl (fun _ _ _ h => h) (Or.inr ⟨by rfl, rfl⟩) (by assumption) ?_
          simp only [Act.put, getElem_toArray, getElem_cons_succ, getElem_cons_zero, setIfInBounds_toArray, set_cons_zero, set_cons_succ]
          refine goes_take0 (i := 12) (v := undef) rfl (by kernel_rfl) (by kernel_rfl) (by kernel_rfl) rfl (fun _ _ _ h => h) (Or.inr ⟨by rfl, rfl⟩) (by assumption) ?_
          simp only [Act.put, getElem_toArray, getElem_cons_succ, getElem_cons_zero, setIfInBounds_toArray, set_cons_zero, set_cons_succ]
          refine goes_take0 (i := 13) (v := (.bool false)) rfl (by kernel_rfl) (by kernel_rfl) (by kernel_rfl) rfl (fun _ _ _ h => h) (Or.inl ⟨by rfl, ?hy4⟩) (by assumption) ?hr4
          case hy4 => (intro W9 hW9; have k0 := hW9; first | (go_simp; done) | (go_simp; with_reducible rfl))
          simp only [Act.put, getElem_toArray, getElem_cons_succ, getElem_cons_zero, setIfInBounds_toArray, set_cons_zero, set_cons_succ]
          refine goes_take0 (i := 14) (v := (.bool false)) rfl (by kernel_rfl) (by kernel_rfl) (by kernel_rfl) rfl (fun _ _ _ h => h) (Or.inl ⟨by rfl, ?hy5⟩) (by assumption) ?hr5
          case hy5 => (intro W9 hW9; have k0 := hW9; first | (go_simp; done) | (go_simp; with_reducible rfl))
          simp only [Act.put, getElem_toArray, getElem_cons_succ, getElem_cons_zero, setIfInBounds_toArray, set_cons_zero, set_cons_succ]
          refine goes_take0 (i := 15) (v := undef) rfl (by kernel_rfl) (by kernel_rfl) (by kernel_rfl) rfl (fun _ _ _ h => h) (Or.inr ⟨by rfl, rfl⟩) (by assumption) ?_
          simp only [Act.put, getElem_toArray, getElem_cons_succ, getElem_cons_zero, setIfInBounds_toArray, set_cons_zero, set_cons_succ]
          refine goes_take0 (i := 16) (v := undef) rfl (by kernel_rfl) (by kernel_rfl) (by kernel_rfl) rfl (fun _ _ _ h => h) (Or.inr ⟨by rfl, rfl⟩) (by assumption) ?_
          simp only [Act.put, getElem_toArray, getElem_cons_succ, getElem_cons_zero, setIfInBounds_toArray, set_cons_zero, set_cons_succ]
          refine goes_take0 (i := 17) (v := undef) rfl (by kernel_rfl) (by kernel_rfl) (by kernel_rfl) rfl (fun _ _ _ h => h) (Or.inr ⟨by rfl, rfl⟩) (by assumption) ?_
          simp only [Act.put, getElem_toArray, getElem_cons_succ, getElem_cons_zero, setIfInBounds_toArray, set_cons_zero, set_cons_succ]
          refine goes_take0 (i := 18) (v := undef) rfl (by kernel_rfl) (by kernel_rfl) (by kernel_rfl) rfl (fun _ _ _ h => h) (Or.inr ⟨by rfl, rfl⟩) (by assumption) ?_
          simp only [Act.put, getElem_toArray, getElem_cons_succ, getElem_cons_zero, setIfInBounds_toArray, set_cons_zero, set_cons_succ]
          refine goes_take0 (i := 19) (v := undef) rfl (by kernel_rfl) (by kernel_rfl) (by kernel_rfl) rfl (fun _ _ _ h => h) (Or.inr ⟨by rfl, rfl⟩) (by assumption) ?_
          simp only [Act.put, getElem_toArray, getElem_cons_succ, getElem_cons_zero, setIfInBounds_toArray, set_cons_zero, set_cons_succ]
          refine goes_take0 (i := 20) (v := undef) rfl (by kernel_rfl) (by kernel_rfl) (by kernel_rfl) rfl (fun _ _ _ h => h) (Or.inr ⟨by rfl, rfl⟩) (by assumption) ?_
          simp only [Act.put, getElem_toArray, getElem_cons_succ, getElem_cons_zero, setIfInBounds_toArray, set_cons_zero, set_cons_succ]
          refine goes_take0 (i := 21) (v := undef) rfl (by kernel_rfl) (by kernel_rfl) (by kernel_rfl) rfl (fun _ _ _ h => h) (Or.inr ⟨by rfl, rfl⟩) (by assumption) ?_
          simp only [Act.put, getElem_toArray, getElem_cons_succ, getElem_cons_zero, setIfInBounds_toArray, set_cons_zero, set_cons_succ]
          refine goes_take0 (i := 22) (v := undef) rfl (by kernel_rfl) (by kernel_rfl) (by kernel_rfl) rfl (fun _ _ _ h => h) (Or.inr ⟨by rfl, rfl⟩) (by assumption) ?_
          simp only [Act.put, getElem_toArray, getElem_cons_succ, getElem_cons_zero, setIfInBounds_toArray, set_cons_zero, set_cons_succ]
          refine goes_take0 (i := 23) (v := undef) rfl (by kernel_rfl) (by kernel_rfl) (by kernel_rfl) rfl (fun _ _ _ h => h) (Or.inr ⟨by rfl, rfl⟩) (by assumption) ?_
          simp only [Act.put, getElem_toArray, getElem_cons_succ, getElem_cons_zero, setIfInBounds_toArray, set_cons_zero, set_cons_succ]
          refine goes_take0 (i := 24) (v := undef) rfl (by kernel_rfl) (by kernel_rfl) (by kernel_rfl) rfl (fun _ _ _ h => h) (Or.inr ⟨by rfl, rfl⟩) (by assumption) ?_
          simp only [Act.put, getElem_toArray, getElem_cons_succ, getElem_cons_zero, setIfInBounds_toArray, set_cons_zero, set_cons_succ]
          refine goes_take0 (i := 25) (v := (.bool false)) rfl (by kernel_rfl) (by kernel_rfl) (by kernel_rfl) rfl (fun _ _ _ h => h) (Or.inl ⟨by rfl, ?hy6⟩) (by assumption) ?hr6
          case hy6 => (intro W9 hW9; have k0 := hW9; first | (go_simp; done) | (go_simp; with_reducible rfl))
          simp only [Act.put, getElem_toArray, getElem_cons_succ, getElem_cons_zero, setIfInBounds_toArray, set_cons_zero, set_cons_succ]
          refine goes_done (by kernel_rfl) ?_ _
          go_wp2_with (at_builtin; refine wpList_append_lies _ rfl _ _ 39 rfl (B0 + 1) 38 i0 (.agg #[.int .u8 0, .int .u8 0, .int .i64 0]) 3 16 Try.underlying39 HI.out.1 HI.out.2.1 HI.out.2.2.1 HI.out.2.2.2 rfl (by decide) (.slice a3 0 cp3) 0 (flatA []) rfl HRA.out ⟨wr.heap.size, 0, none⟩ 1 1 [.int .u8 k, .int .u8 k, .int .i64 t] rfl rfl (news_in (cs := #[.int .u8 k, .int .u8 k, .int .i64 t]) (heap_alloc_new wr _)) (by simp [Value.oneCell']) (by omega) (by unfold maxLen; omega) (by omega) (by simp; omega) (wr.heap.size + 1) (by simp) ?_; intro g2 cap2 w8 h2 h3 h4 h5; have HP1 := Lib.hid (push3 HBR.out HROW.out (Nat.le_succ B0) (by omega) ((Below.refl _ _).alloc (Nat.le_refl _) _).drew h3); have HP2 := Lib.hid (iblk_push HBL.out HROW.out hB1 ((Below.refl _ _).alloc (Nat.le_refl _) _).drew h3); have hsz8 := h3.size; have HP3 := Lib.hid h2; clear h2 h3 h4 h5)
          go_roundw
          case rel => exact ⟨k + 1, num_succ k, by omega, by simp at hsz8; omega, by have := HP3.out; rw [HNEW.out, HLN.out, HFL.out]; exact Lib.hid this, HP2, HP1⟩
          case measure => simp [intOf]; omega
        · obtain ⟨j, hj⟩ : ∃ j, lp.length = j := ⟨_, rfl⟩
          have hln : (lp ++ [x]).length = j + 1 := by simp [hj]
          rw [hln] at hlen HROW
          obtain ⟨g, cap, rfl, hgB, hgl⟩ := HROW.out.form (Nat.succ_pos j)
          have c1 : wr.cell? ⟨g, j * 3 + 1, none⟩ = some (.int .u8 x.hi) := by rw [HROW.out.cellAt (j * 3 + 1) (by omega), ← hj, flatA_last]; rfl
          have c2 : wr.cell? ⟨g, j * 3 + 2, none⟩ = some (.int .i64 x.dest) := by rw [HROW.out.cellAt (j * 3 + 2) (by omega), ← hj, flatA_last]; rfl
          have HRA := Lib.hid ((HROW.out.alloc (.cells #[.int .u8 k, .int .u8 k, .int .i64 t] 38)).drew)
          have HFL := Lib.hid (flatA_snoc (lp ++ [x]) ⟨k, k, t⟩)
          have HLN : Hid ((lp ++ [x] ++ [(⟨k, k, t⟩ : Arc3)]).length = j + 1 + 1) := Lib.hid (by simp [hj])
          have hfz : wr.drew.frozen? ⟨g, j * 3 + 1, none⟩ = false := HROW.out.drew.frozenAt _
          clear hln
          have hjb : j < 256 := by omega
          have hjw : IntKind.i64.wrap (j : Int) = j := by rw [IntKind.wrap_i64]; omega
          have hjl : (j : Int) < (j : Int) + 1 := by omega
          have hxk := (HLAST.out x (by simp)).2.1
          have hxw : IntKind.i64.wrap (x.hi : Int) = x.hi := by rw [IntKind.wrap_i64]; omega
          have hkw : IntKind.i64.wrap ((k : Int) - 1) = (k : Int) - 1 := by rw [IntKind.wrap_i64]; omega
          have hk256 : (k : Int) < 256 := by omega
          have hj1 : ((j + 1 : Nat) : Int) - 1 = (j : Int) := by omega
          have hj2 : decide (((j + 1 : Nat) : Int) > 0) = true := decide_eq_true (by omega)
          have hj3 : decide ((0 : Int) < ((j + 1 : Nat) : Int)) = true := decide_eq_true (by omega)
          by_cases hx1 : x.hi + 1 = k
          · have e1 : (x.hi : Int) = (k : Int) - 1 := by omega
            by_cases hx2 : x.dest = t
            · have HNEW := Lib.hid (HPUT.out.trans (arcPut_same hneg ⟨hx1, hx2⟩))
              have HSET := Lib.hid (flatA_set lp x k)
              rw [hj] at HSET
              have HLN2 : Hid ((lp ++ [(⟨x.lo, k, x.dest⟩ : Arc3)]).length = j + 1) := Lib.hid (by simp [hj])
              have hgB0 : B0 ≠ g := by omega
              have HST := Lib.hid (HROW.out.drew.stored (j * 3 + 1) (.int .u8 k))
              have HIB := Lib.hid (HBL.out.other (a := ⟨g, j * 3 + 1, none⟩) hgB0 (.int .u8 k))
              have e2 : (x.dest == t) = true := by simp [hx2]
              clear hneg HPUT hx1 hx2 HRA HFL HLN
              go_wp2
              refine region_goes 126 26 rfl (fun W => W.cell? ⟨B0, k, none⟩ = some (.int .i64 t) ∧ W.cell? ⟨g, j * 3 + 1, none⟩ = some (.int .u8 x.hi) ∧ W.cell? ⟨g, j * 3 + 2, none⟩ = some (.int .i64 x.dest)) mixed ⟨c0, c1, c2⟩ (fun hHeld => ?_)
              refine goes_take0 (i := 0) (v := ?hv7) rfl (by kernel_rfl) (by kernel_rfl) (by kernel_rfl) rfl (fun _ _ _ h => h) (Or.inl ⟨by rfl, ?hy7⟩) (by assumption) ?hr7
              case hy7 => (intro W9 hW9; obtain ⟨k0, k1, k2⟩ := hW9; first | (go_simp; done) | (go_simp; with_reducible rfl))
              simp only [Act.put, getElem_toArray, getElem_cons_succ, getElem_cons_zero, setIfInBounds_toArray, set_cons_zero, set_cons_succ]
              refine goes_take0 (i := 1) (v := (.bool true)) rfl (by kernel_rfl) (by kernel_rfl) (by kernel_rfl) rfl (fun _ _ _ h => h) (Or.inl ⟨by rfl, ?hy8⟩) (by assumption) ?hr8
              case hy8 => (intro W9 hW9; obtain ⟨k0, k1, k2⟩ := hW9; first | (go_simp; done) | (go_simp; with_reducible rfl))
              simp only [Act.put, getElem_toArray, getElem_cons_succ, getElem_cons_zero, setIfInBounds_toArray, set_cons_zero, set_cons_succ]
              refine goes_take0 (i := 2) (v := (.bool true)) rfl (by kernel_rfl) (by kernel_rfl) (by kernel_rfl) rfl (fun _ _ _ h => h) (Or.inl ⟨by rfl, ?hy9⟩) (by assumption) ?hr9
              case hy9 => (intro W9 hW9; obtain ⟨k0, k1, k2⟩ := hW9; first | (go_simp; done) | (go_simp; with_reducible rfl))
              simp only [Act.put, getElem_toArray, getElem_cons_succ, getElem_cons_zero, setIfInBounds_toArray, set_cons_zero, set_cons_succ]
              refine goes_take0 (i := 3) (v := ?hv10) rfl (by kernel_rfl) (by kernel_rfl) (by kernel_rfl) rfl (fun _ _ _ h => h) (Or.inl ⟨by rfl, ?hy10⟩) (by assumption) ?hr10
              case hy10 => (intro W9 hW9; obtain ⟨k0, k1, k2⟩ := hW9; first | (go_simp; done) | (go_simp; with_reducible rfl))
              simp only [Act.put, getElem_toArray, getElem_cons_succ, getElem_cons_zero, setIfInBounds_toArray, set_cons_zero, set_cons_succ]
              refine goes_take0 (i := 4) (v := ?hv11) rfl (by kernel_rfl) (by kernel_rfl) (by kernel_rfl) rfl (fun _ _ _ h => h) (Or.inl ⟨by rfl, ?hy11⟩) (by assumption) ?hr11
              case hy11 => (intro W9 hW9; obtain ⟨k0, k1, k2⟩ := hW9; first | (go_simp; done) | (go_simp; with_reducible rfl))
              simp only [Act.put, getElem_toArray, getElem_cons_succ, getElem_cons_zero, setIfInBounds_toArray, set_cons_zero, set_cons_succ]
              refine goes_take0 (i := 5) (v := (.int .i64 (j : Int))) rfl (by kernel_rfl) (by kernel_rfl) (by kernel_rfl) rfl (fun _ _ _ h => h) (Or.inl ⟨by rfl, ?hy12⟩) (by assumption) ?hr12
              case hy12 => (intro W9 hW9; obtain ⟨k0, k1, k2⟩ := hW9; first | (go_simp; done) | (go_simp; with_reducible rfl))
              simp only [Act.put, getElem_toArray, getElem_cons_succ, getElem_cons_zero, setIfInBounds_toArray, set_cons_zero, set_cons_succ]
              refine goes_take0 (i := 6) (v := ?hv13) rfl (by kernel_rfl) (by kernel_rfl) (by kernel_rfl) rfl (fun _ _ _ h => h) (Or.inl ⟨by rfl, ?hy13⟩) (by assumption) ?hr13
              case hy13 => (intro W9 hW9; obtain ⟨k0, k1, k2⟩ := hW9; first | (go_simp; done) | (go_simp; with_reducible rfl))
              simp only [Act.put, getElem_toArray, getElem_cons_succ, getElem_cons_zero, setIfInBounds_toArray, set_cons_zero, set_cons_succ]
              refine goes_take0 (i := 7) (v := ?hv14) rfl (by kernel_rfl) (by kernel_rfl) (by kernel_rfl) rfl (fun _ _ _ h => h) (Or.inl ⟨by rfl, ?hy14⟩) (by assumption) ?hr14
              case hy14 => (intro W9 hW9; obtain ⟨k0, k1, k2⟩ := hW9; first | (go_simp; done) | (go_simp; with_reducible rfl))
              simp only [Act.put, getElem_toArray, getElem_cons_succ, getElem_cons_zero, setIfInBounds_toArray, set_cons_zero, set_cons_succ]
              refine goes_take0 (i := 8) (v := ?hv15) rfl (by kernel_rfl) (by kernel_rfl) (by kernel_rfl) rfl (fun _ _ _ h => h) (Or.inl ⟨by rfl, ?hy15⟩) (by assumption) ?hr15
              case hy15 => (intro W9 hW9; obtain ⟨k0, k1, k2⟩ := hW9; first | (go_simp; done) | (go_simp; with_reducible rfl))
              simp only [Act.put, getElem_toArray, getElem_cons_succ, getElem_cons_zero, setIfInBounds_toArray, set_cons_zero, set_cons_succ]
              refine goes_take0 (i := 9) (v := ?hv16) rfl (by kernel_rfl) (by kernel_rfl) (by kernel_rfl) rfl (fun _ _ _ h => h) (Or.inl ⟨by rfl, ?hy16⟩) (by assumption) ?hr16
              case hy16 => (intro W9 hW9; obtain ⟨k0, k1, k2⟩ := hW9; first | (go_simp; done) | (go_simp; with_reducible rfl))
              simp only [Act.put, getElem_toArray, getElem_cons_succ, getElem_cons_zero, setIfInBounds_toArray, set_cons_zero, set_cons_succ]
              refine goes_take0 (i := 10) (v := ?hv17) rfl (by kernel_rfl) (by kernel_rfl) (by kernel_rfl) rfl (fun _ _ _ h => h) (Or.inl ⟨by rfl, ?hy17⟩) (by assumption) ?hr17
              case hy17 => (intro W9 hW9; obtain ⟨k0, k1, k2⟩ := hW9; first | (go_simp; done) | (go_simp; with_reducible rfl))
              simp only [Act.put, getElem_toArray, getElem_cons_succ, getElem_cons_zero, setIfInBounds_toArray, set_cons_zero, set_cons_succ]
              refine goes_take0 (i := 11) (v := ?hv18) rfl (by kernel_rfl) (by kernel_rfl) (by kernel_rfl) rfl (fun _ _ _ h => h) (Or.inl ⟨by rfl, ?hy18⟩) (by assumption) ?hr18
              case hy18 => (intro W9 hW9; obtain ⟨k0, k1, k2⟩ := hW9; first | (go_simp; done) | (go_simp; with_reducible rfl))
              simp only [Act.put, getElem_toArray, getElem_cons_succ, getElem_cons_zero, setIfInBounds_toArray, set_cons_zero, set_cons_succ]
              refine goes_take0 (i := 12) (v := (.bool true)) rfl (by kernel_rfl) (by kernel_rfl) (by kernel_rfl) rfl (fun _ _ _ h => h) (Or.inl ⟨by rfl, ?hy19⟩) (by assumption) ?hr19
              case hy19 => (intro W9 hW9; obtain ⟨k0, k1, k2⟩ := hW9; first | (go_simp; done) | (go_simp; with_reducible rfl))
              simp only [Act.put, getElem_toArray, getElem_cons_succ, getElem_cons_zero, setIfInBounds_toArray, set_cons_zero, set_cons_succ]
              refine goes_take0 (i := 13) (v := (.bool true)) rfl (by kernel_rfl) (by kernel_rfl) (by kernel_rfl) rfl (fun _ _ _ h => h) (Or.inl ⟨by rfl, ?hy20⟩) (by assumption) ?hr20
              case hy20 => (intro W9 hW9; obtain ⟨k0, k1, k2⟩ := hW9; first | (go_simp; done) | (go_simp; with_reducible rfl))
              simp only [Act.put, getElem_toArray, getElem_cons_succ, getElem_cons_zero, setIfInBounds_toArray, set_cons_zero, set_cons_succ]
              refine goes_take0 (i := 14) (v := (.bool true)) rfl (by kernel_rfl) (by kernel_rfl) (by kernel_rfl) rfl (fun _ _ _ h => h) (Or.inl ⟨by rfl, ?hy21⟩) (by assumption) ?hr21
              case hy21 => (intro W9 hW9; obtain ⟨k0, k1, k2⟩ := hW9; first | (go_simp; done) | (go_simp; with_reducible rfl))
              simp only [Act.put, getElem_toArray, getElem_cons_succ, getElem_cons_zero, setIfInBounds_toArray, set_cons_zero, set_cons_succ]
              refine goes_take0 (i := 15) (v := ?hv22) rfl (by kernel_rfl) (by kernel_rfl) (by kernel_rfl) rfl (fun _ _ _ h => h) (Or.inl ⟨by rfl, ?hy22⟩) (by assumption) ?hr22
              case hy22 => (intro W9 hW9; obtain ⟨k0, k1, k2⟩ := hW9; first | (go_simp; done) | (go_simp; with_reducible rfl))
              simp only [Act.put, getElem_toArray, getElem_cons_succ, getElem_cons_zero, setIfInBounds_toArray, set_cons_zero, set_cons_succ]
              refine goes_take0 (i := 16) (v := ?hv23) rfl (by kernel_rfl) (by kernel_rfl) (by kernel_rfl) rfl (fun _ _ _ h => h) (Or.inl ⟨by rfl, ?hy23⟩) (by assumption) ?hr23
              case hy23 => (intro W9 hW9; obtain ⟨k0, k1, k2⟩ := hW9; first | (go_simp; done) | (go_simp; with_reducible rfl))
              simp only [Act.put, getElem_toArray, getElem_cons_succ, getElem_cons_zero, setIfInBounds_toArray, set_cons_zero, set_cons_succ]
              refine goes_take0 (i := 17) (v := (.int .i64 (j : Int))) rfl (by kernel_rfl) (by kernel_rfl) (by kernel_rfl) rfl (fun _ _ _ h => h) (Or.inl ⟨by rfl, ?hy24⟩) (by assumption) ?hr24
              case hy24 => (intro W9 hW9; obtain ⟨k0, k1, k2⟩ := hW9; first | (go_simp; done) | (go_simp; with_reducible rfl))
              simp only [Act.put, getElem_toArray, getElem_cons_succ, getElem_cons_zero, setIfInBounds_toArray, set_cons_zero, set_cons_succ]
              refine goes_take0 (i := 18) (v := ?hv25) rfl (by kernel_rfl) (by kernel_rfl) (by kernel_rfl) rfl (fun _ _ _ h => h) (Or.inl ⟨by rfl, ?hy25⟩) (by assumption) ?hr25
              case hy25 => (intro W9 hW9; obtain ⟨k0, k1, k2⟩ := hW9; first | (go_simp; done) | (go_simp; with_reducible rfl))
              simp only [Act.put, getElem_toArray, getElem_cons_succ, getElem_cons_zero, setIfInBounds_toArray, set_cons_zero, set_cons_succ]
              refine goes_take0 (i := 19) (v := ?hv26) rfl (by kernel_rfl) (by kernel_rfl) (by kernel_rfl) rfl (fun _ _ _ h => h) (Or.inl ⟨by rfl, ?hy26⟩) (by assumption) ?hr26
              case hy26 => (intro W9 hW9; obtain ⟨k0, k1, k2⟩ := hW9; first | (go_simp; done) | (go_simp; with_reducible rfl))
              simp only [Act.put, getElem_toArray, getElem_cons_succ, getElem_cons_zero, setIfInBounds_toArray, set_cons_zero, set_cons_succ]
              refine goes_take0 (i := 20) (v := ?hv27) rfl (by kernel_rfl) (by kernel_rfl) (by kernel_rfl) rfl (fun _ _ _ h => h) (Or.inl ⟨by rfl, ?hy27⟩) (by assumption) ?hr27
              case hy27 => (intro W9 hW9; obtain ⟨k0, k1, k2⟩ := hW9; first | (go_simp; done) | (go_simp; with_reducible rfl))
              simp only [Act.put, getElem_toArray, getElem_cons_succ, getElem_cons_zero, setIfInBounds_toArray, set_cons_zero, set_cons_succ]
              refine goes_take0 (i := 21) (v := ?hv28) rfl (by kernel_rfl) (by kernel_rfl) (by kernel_rfl) rfl (fun _ _ _ h => h) (Or.inl ⟨by rfl, ?hy28⟩) (by assumption) ?hr28
              case hy28 => (intro W9 hW9; obtain ⟨k0, k1, k2⟩ := hW9; first | (go_simp; done) | (go_simp; with_reducible rfl))
              simp only [Act.put, getElem_toArray, getElem_cons_succ, getElem_cons_zero, setIfInBounds_toArray, set_cons_zero, set_cons_succ]
              refine goes_take0 (i := 22) (v := ?hv29) rfl (by kernel_rfl) (by kernel_rfl) (by kernel_rfl) rfl (fun _ _ _ h => h) (Or.inl ⟨by rfl, ?hy29⟩) (by assumption) ?hr29
              case hy29 => (intro W9 hW9; obtain ⟨k0, k1, k2⟩ := hW9; first | (go_simp; done) | (go_simp; with_reducible rfl))
              simp only [Act.put, getElem_toArray, getElem_cons_succ, getElem_cons_zero, setIfInBounds_toArray, set_cons_zero, set_cons_succ]
              refine goes_take0 (i := 23) (v := ?hv30) rfl (by kernel_rfl) (by kernel_rfl) (by kernel_rfl) rfl (fun _ _ _ h => h) (Or.inl ⟨by rfl, ?hy30⟩) (by assumption) ?hr30
              case hy30 => (intro W9 hW9; obtain ⟨k0, k1, k2⟩ := hW9; first | (go_simp; done) | (go_simp; with_reducible rfl))
              simp only [Act.put, getElem_toArray, getElem_cons_succ, getElem_cons_zero, setIfInBounds_toArray, set_cons_zero, set_cons_succ]
              refine goes_take0 (i := 24) (v := (.bool true)) rfl (by kernel_rfl) (by kernel_rfl) (by kernel_rfl) rfl (fun _ _ _ h => h) (Or.inl ⟨by rfl, ?hy31⟩) (by assumption) ?hr31
              case hy31 => (intro W9 hW9; obtain ⟨k0, k1, k2⟩ := hW9; first | (go_simp; done) | (go_simp; with_reducible rfl))
              simp only [Act.put, getElem_toArray, getElem_cons_succ, getElem_cons_zero, setIfInBounds_toArray, set_cons_zero, set_cons_succ]
              refine goes_take0 (i := 25) (v := (.bool true)) rfl (by kernel_rfl) (by kernel_rfl) (by kernel_rfl) rfl (fun _ _ _ h => h) (Or.inl ⟨by rfl, ?hy32⟩) (by assumption) ?hr32
              case hy32 => (intro W9 hW9; obtain ⟨k0, k1, k2⟩ := hW9; first | (go_simp; done) | (go_simp; with_reducible rfl))
              simp only [Act.put, getElem_toArray, getElem_cons_succ, getElem_cons_zero, setIfInBounds_toArray, set_cons_zero, set_cons_succ]
              refine goes_done (by kernel_rfl) ?_ _
              go_wp2
              go_roundw
              case rel => exact ⟨k + 1, num_succ k, by omega, by simp; omega, by rw [HNEW.out, HLN2.out, ← HSET.out]; exact Lib.hid HST.out.1, HIB, Lib.hid (HBD.out.setCell (show B0 ≤ g by omega) _)⟩
              case measure => simp [intOf]; omega
            · have HNEW := Lib.hid (HPUT.out.trans (arcPut_new hneg (fun h => hx2 h.2)))
              have e2 : (x.dest == t) = false := by simpa using hx2
              clear hneg HPUT hx1 hx2 hfz
              go_wp2
              refine region_goes 126 26 rfl (fun W => W.cell? ⟨B0, k, none⟩ = some (.int .i64 t) ∧ W.cell? ⟨g, j * 3 + 1, none⟩ = some (.int .u8 x.hi) ∧ W.cell? ⟨g, j * 3 + 2, none⟩ = some (.int .i64 x.dest)) mixed ⟨c0, c1, c2⟩ (fun hHeld => ?_)
              refine goes_take0 (i := 0) (v := ?hv33) rfl (by kernel_rfl) (by kernel_rfl) (by kernel_rfl) rfl (fun _ _ _ h => h) (Or.inl ⟨by rfl, ?hy33⟩) (by assumption) ?hr33
              case hy33 => (intro W9 hW9; obtain ⟨k0, k1, k2⟩ := hW9; first | (go_simp; done) | (go_simp; with_reducible rfl))
              simp only [Act.put, getElem_toArray, getElem_cons_succ, getElem_cons_zero, setIfInBounds_toArray, set_cons_zero, set_cons_succ]
              refine goes_take0 (i := 1) (v := (.bool true)) rfl (by kernel_rfl) (by kernel_rfl) (by kernel_rfl) rfl (fun _ _ _ h => h) (Or.inl ⟨by rfl, ?hy34⟩) (by assumption) ?hr34
              case hy34 => (intro W9 hW9; obtain ⟨k0, k1, k2⟩ := hW9; first | (go_simp; done) | (go_simp; with_reducible rfl))
              simp only [Act.put, getElem_toArray, getElem_cons_succ, getElem_cons_zero, setIfInBounds_toArray, set_cons_zero, set_cons_succ]
              refine goes_take0 (i := 2) (v := (.bool true)) rfl (by kernel_rfl) (by kernel_rfl) (by kernel_rfl) rfl (fun _ _ _ h => h) (Or.inl ⟨by rfl, ?hy35⟩) (by assumption) ?hr35
              case hy35 => (intro W9 hW9; obtain ⟨k0, k1, k2⟩ := hW9; first | (go_simp; done) | (go_simp; with_reducible rfl))
              simp only [Act.put, getElem_toArray, getElem_cons_succ, getElem_cons_zero, setIfInBounds_toArray, set_cons_zero, set_cons_succ]
              refine goes_take0 (i := 3) (v := ?hv36) rfl (by kernel_rfl) (by kernel_rfl) (by kernel_rfl) rfl (fun _ _ _ h => h) (Or.inl ⟨by rfl, ?hy36⟩) (by assumption) ?hr36
              case hy36 => (intro W9 hW9; obtain ⟨k0, k1, k2⟩ := hW9; first | (go_simp; done) | (go_simp; with_reducible rfl))
              simp only [Act.put, getElem_toArray, getElem_cons_succ, getElem_cons_zero, setIfInBounds_toArray, set_cons_zero, set_cons_succ]
              refine goes_take0 (i := 4) (v := ?hv37) rfl (by kernel_rfl) (by kernel_rfl) (by kernel_rfl) rfl (fun _ _ _ h => h) (Or.inl ⟨by rfl, ?hy37⟩) (by assumption) ?hr37
              case hy37 => (intro W9 hW9; obtain ⟨k0, k1, k2⟩ := hW9; first | (go_simp; done) | (go_simp; with_reducible rfl))
              simp only [Act.put, getElem_toArray, getElem_cons_succ, getElem_cons_zero, setIfInBounds_toArray, set_cons_zero, set_cons_succ]
              refine goes_take0 (i := 5) (v := (.int .i64 (j : Int))) rfl (by kernel_rfl) (by kernel_rfl) (by kernel_rfl) rfl (fun _ _ _ h => h) (Or.inl ⟨by rfl, ?hy38⟩) (by assumption) ?hr38
              case hy38 => (intro W9 hW9; obtain ⟨k0, k1, k2⟩ := hW9; first | (go_simp; done) | (go_simp; with_reducible rfl))
              simp only [Act.put, getElem_toArray, getElem_cons_succ, getElem_cons_zero, setIfInBounds_toArray, set_cons_zero, set_cons_succ]
              refine goes_take0 (i := 6) (v := ?hv39) rfl (by kernel_rfl) (by kernel_rfl) (by kernel_rfl) rfl (fun _ _ _ h => h) (Or.inl ⟨by rfl, ?hy39⟩) (by assumption) ?hr39
              case hy39 => (intro W9 hW9; obtain ⟨k0, k1, k2⟩ := hW9; first | (go_simp; done) | (go_simp; with_reducible rfl))
              simp only [Act.put, getElem_toArray, getElem_cons_succ, getElem_cons_zero, setIfInBounds_toArray, set_cons_zero, set_cons_succ]
              refine goes_take0 (i := 7) (v := ?hv40) rfl (by kernel_rfl) (by kernel_rfl) (by kernel_rfl) rfl (fun _ _ _ h => h) (Or.inl ⟨by rfl, ?hy40⟩) (by assumption) ?hr40
              case hy40 => (intro W9 hW9; obtain ⟨k0, k1, k2⟩ := hW9; first | (go_simp; done) | (go_simp; with_reducible rfl))
              simp only [Act.put, getElem_toArray, getElem_cons_succ, getElem_cons_zero, setIfInBounds_toArray, set_cons_zero, set_cons_succ]
              refine goes_take0 (i := 8) (v := ?hv41) rfl (by kernel_rfl) (by kernel_rfl) (by kernel_rfl) rfl (fun _ _ _ h => h) (Or.inl ⟨by rfl, ?hy41⟩) (by assumption) ?hr41
              case hy41 => (intro W9 hW9; obtain ⟨k0, k1, k2⟩ := hW9; first | (go_simp; done) | (go_simp; with_reducible rfl))
              simp only [Act.put, getElem_toArray, getElem_cons_succ, getElem_cons_zero, setIfInBounds_toArray, set_cons_zero, set_cons_succ]
              refine goes_take0 (i := 9) (v := ?hv42) rfl (by kernel_rfl) (by kernel_rfl) (by kernel_rfl) rfl (fun _ _ _ h => h) (Or.inl ⟨by rfl, ?hy42⟩) (by assumption) ?hr42
              case hy42 => (intro W9 hW9; obtain ⟨k0, k1, k2⟩ := hW9; first | (go_simp; done) | (go_simp; with_reducible rfl))
              simp only [Act.put, getElem_toArray, getElem_cons_succ, getElem_cons_zero, setIfInBounds_toArray, set_cons_zero, set_cons_succ]
              refine goes_take0 (i := 10) (v := ?hv43) rfl (by kernel_rfl) (by kernel_rfl) (by kernel_rfl) rfl (fun _ _ _ h => h) (Or.inl ⟨by rfl, ?hy43⟩) (by assumption) ?hr43
              case hy43 => (intro W9 hW9; obtain ⟨k0, k1, k2⟩ := hW9; first | (go_simp; done) | (go_simp; with_reducible rfl))
              simp only [Act.put, getElem_toArray, getElem_cons_succ, getElem_cons_zero, setIfInBounds_toArray, set_cons_zero, set_cons_succ]
              refine goes_take0 (i := 11) (v := ?hv44) rfl (by kernel_rfl) (by kernel_rfl) (by kernel_rfl) rfl (fun _ _ _ h => h) (Or.inl ⟨by rfl, ?hy44⟩) (by assumption) ?hr44
              case hy44 => (intro W9 hW9; obtain ⟨k0, k1, k2⟩ := hW9; first | (go_simp; done) | (go_simp; with_reducible rfl))
              simp only [Act.put, getElem_toArray, getElem_cons_succ, getElem_cons_zero, setIfInBounds_toArray, set_cons_zero, set_cons_succ]
              refine goes_take0 (i := 12) (v := (.bool true)) rfl (by kernel_rfl) (by kernel_rfl) (by kernel_rfl) rfl (fun _ _ _ h => h) (Or.inl ⟨by rfl, ?hy45⟩) (by assumption) ?hr45
              case hy45 => (intro W9 hW9; obtain ⟨k0, k1, k2⟩ := hW9; first | (go_simp; done) | (go_simp; with_reducible rfl))
              simp only [Act.put, getElem_toArray, getElem_cons_succ, getElem_cons_zero, setIfInBounds_toArray, set_cons_zero, set_cons_succ]
              refine goes_take0 (i := 13) (v := (.bool true)) rfl (by kernel_rfl) (by kernel_rfl) (by kernel_rfl) rfl (fun _ _ _ h => h) (Or.inl ⟨by rfl, ?hy46⟩) (by assumption) ?hr46
              case hy46 => (intro W9 hW9; obtain ⟨k0, k1, k2⟩ := hW9; first | (go_simp; done) | (go_simp; with_reducible rfl))
              simp only [Act.put, getElem_toArray, getElem_cons_succ, getElem_cons_zero, setIfInBounds_toArray, set_cons_zero, set_cons_succ]
              refine goes_take0 (i := 14) (v := (.bool true)) rfl (by kernel_rfl) (by kernel_rfl) (by kernel_rfl) rfl (fun _ _ _ h => h) (Or.inl ⟨by rfl, ?hy47⟩) (by assumption) ?hr47
              case hy47 => (intro W9 hW9; obtain ⟨k0, k1, k2⟩ := hW9; first | (go_simp; done) | (go_simp; with_reducible rfl))
              simp only [Act.put, getElem_toArray, getElem_cons_succ, getElem_cons_zero, setIfInBounds_toArray, set_cons_zero, set_cons_succ]
              refine goes_take0 (i := 15) (v := ?hv48) rfl (by kernel_rfl) (by kernel_rfl) (by kernel_rfl) rfl (fun _ _ _ h => h) (Or.inl ⟨by rfl, ?hy48⟩) (by assumption) ?hr48
              case hy48 => (intro W9 hW9; obtain ⟨k0, k1, k2⟩ := hW9; first | (go_simp; done) | (go_simp; with_reducible rfl))
              simp only [Act.put, getElem_toArray, getElem_cons_succ, getElem_cons_zero, setIfInBounds_toArray, set_cons_zero, set_cons_succ]
              refine goes_take0 (i := 16) (v := ?hv49) rfl (by kernel_rfl) (by kernel_rfl) (by kernel_rfl) rfl (fun _ _ _ h => h) (Or.inl ⟨by rfl, ?hy49⟩) (by assumption) ?hr49
              case hy49 => (intro W9 hW9; obtain ⟨k0, k1, k2⟩ := hW9; first | (go_simp; done) | (go_simp; with_reducible rfl))
              simp only [Act.put, getElem_toArray, getElem_cons_succ, getElem_cons_zero, setIfInBounds_toArray, set_cons_zero, set_cons_succ]
              refine goes_take0 (i := 17) (v := (.int .i64 (j : Int))) rfl (by kernel_rfl) (by kernel_rfl) (by kernel_rfl) rfl (fun _ _ _ h => h) (Or.inl ⟨by rfl, ?hy50⟩) (by assumption) ?hr50
              case hy50 => (intro W9 hW9; obtain ⟨k0, k1, k2⟩ := hW9; first | (go_simp; done) | (go_simp; with_reducible rfl))
              simp only [Act.put, getElem_toArray, getElem_cons_succ, getElem_cons_zero, setIfInBounds_toArray, set_cons_zero, set_cons_succ]
              refine goes_take0 (i := 18) (v := ?hv51) rfl (by kernel_rfl) (by kernel_rfl) (by kernel_rfl) rfl (fun _ _ _ h => h) (Or.inl ⟨by rfl, ?hy51⟩) (by assumption) ?hr51
              case hy51 => (intro W9 hW9; obtain ⟨k0, k1, k2⟩ := hW9; first | (go_simp; done) | (go_simp; with_reducible rfl))
              simp only [Act.put, getElem_toArray, getElem_cons_succ, getElem_cons_zero, setIfInBounds_toArray, set_cons_zero, set_cons_succ]
              refine goes_take0 (i := 19) (v := ?hv52) rfl (by kernel_rfl) (by kernel_rfl) (by kernel_rfl) rfl (fun _ _ _ h => h) (Or.inl ⟨by rfl, ?hy52⟩) (by assumption) ?hr52
              case hy52 => (intro W9 hW9; obtain ⟨k0, k1, k2⟩ := hW9; first | (go_simp; done) | (go_simp; with_reducible rfl))
              simp only [Act.put, getElem_toArray, getElem_cons_succ, getElem_cons_zero, setIfInBounds_toArray, set_cons_zero, set_cons_succ]
              refine goes_take0 (i := 20) (v := ?hv53) rfl (by kernel_rfl) (by kernel_rfl) (by kernel_rfl) rfl (fun _ _ _ h => h) (Or.inl ⟨by rfl, ?hy53⟩) (by assumption) ?hr53
              case hy53 => (intro W9 hW9; obtain ⟨k0, k1, k2⟩ := hW9; first | (go_simp; done) | (go_simp; with_reducible rfl))
              simp only [Act.put, getElem_toArray, getElem_cons_succ, getElem_cons_zero, setIfInBounds_toArray, set_cons_zero, set_cons_succ]
              refine goes_take0 (i := 21) (v := ?hv54) rfl (by kernel_rfl) (by kernel_rfl) (by kernel_rfl) rfl (fun _ _ _ h => h) (Or.inl ⟨by rfl, ?hy54⟩) (by assumption) ?hr54
              case hy54 => (intro W9 hW9; obtain ⟨k0, k1, k2⟩ := hW9; first | (go_simp; done) | (go_simp; with_reducible rfl))
              simp only [Act.put, getElem_toArray, getElem_cons_succ, getElem_cons_zero, setIfInBounds_toArray, set_cons_zero, set_cons_succ]
              refine goes_take0 (i := 22) (v := ?hv55) rfl (by kernel_rfl) (by kernel_rfl) (by kernel_rfl) rfl (fun _ _ _ h => h) (Or.inl ⟨by rfl, ?hy55⟩) (by assumption) ?hr55
              case hy55 => (intro W9 hW9; obtain ⟨k0, k1, k2⟩ := hW9; first | (go_simp; done) | (go_simp; with_reducible rfl))
              simp only [Act.put, getElem_toArray, getElem_cons_succ, getElem_cons_zero, setIfInBounds_toArray, set_cons_zero, set_cons_succ]
              refine goes_take0 (i := 23) (v := ?hv56) rfl (by kernel_rfl) (by kernel_rfl) (by kernel_rfl) rfl (fun _ _ _ h => h) (Or.inl ⟨by rfl, ?hy56⟩) (by assumption) ?hr56
              case hy56 => (intro W9 hW9; obtain ⟨k0, k1, k2⟩ := hW9; first | (go_simp; done) | (go_simp; with_reducible rfl))
              simp only [Act.put, getElem_toArray, getElem_cons_succ, getElem_cons_zero, setIfInBounds_toArray, set_cons_zero, set_cons_succ]
              refine goes_take0 (i := 24) (v := (.bool false)) rfl (by kernel_rfl) (by kernel_rfl) (by kernel_rfl) rfl (fun _ _ _ h => h) (Or.inl ⟨by rfl, ?hy57⟩) (by assumption) ?hr57
              case hy57 => (intro W9 hW9; obtain ⟨k0, k1, k2⟩ := hW9; first | (go_simp; done) | (go_simp; with_reducible rfl))
              simp only [Act.put, getElem_toArray, getElem_cons_succ, getElem_cons_zero, setIfInBounds_toArray, set_cons_zero, set_cons_succ]
              refine goes_take0 (i := 25) (v := (.bool false)) rfl (by kernel_rfl) (by kernel_rfl) (by kernel_rfl) rfl (fun _ _ _ h => h) (Or.inl ⟨by rfl, ?hy58⟩) (by assumption) ?hr58
              case hy58 => (intro W9 hW9; obtain ⟨k0, k1, k2⟩ := hW9; first | (go_simp; done) | (go_simp; with_reducible rfl))
              simp only [Act.put, getElem_toArray, getElem_cons_succ, getElem_cons_zero, setIfInBounds_toArray, set_cons_zero, set_cons_succ]
              refine goes_done (by kernel_rfl) ?_ _
              go_wp2_with (at_builtin; refine wpList_append_lies _ rfl _ _ 39 rfl (B0 + 1) 38 i0 (.agg #[.int .u8 0, .int .u8 0, .int .i64 0]) 3 16 Try.underlying39 HI.out.1 HI.out.2.1 HI.out.2.2.1 HI.out.2.2.2 rfl (by decide) (.slice (some ⟨g, 0, none⟩) (j + 1) cap) (j + 1) (flatA (lp ++ [x])) rfl HRA.out ⟨wr.heap.size, 0, none⟩ 1 1 [.int .u8 k, .int .u8 k, .int .i64 t] rfl rfl (news_in (cs := #[.int .u8 k, .int .u8 k, .int .i64 t]) (heap_alloc_new wr _)) (by simp [Value.oneCell']) (by omega) (by unfold maxLen; omega) (by omega) (by simp; omega) (wr.heap.size + 1) (by simp) ?_; intro g2 cap2 w8 h2 h3 h4 h5; have HP1 := Lib.hid (push3 HBR.out HROW.out (Nat.le_succ B0) (by omega) ((Below.refl _ _).alloc (Nat.le_refl _) _).drew h3); have HP2 := Lib.hid (iblk_push HBL.out HROW.out hB1 ((Below.refl _ _).alloc (Nat.le_refl _) _).drew h3); have hsz8 := h3.size; have HP3 := Lib.hid h2; clear h2 h3 h4 h5)
              go_roundw
              case rel => exact ⟨k + 1, num_succ k, by omega, by simp at hsz8; omega, by have := HP3.out; rw [HNEW.out, HLN.out, HFL.out]; exact Lib.hid this, HP2, HP1⟩
              case measure => simp [intOf]; omega
          · have HNEW := Lib.hid (HPUT.out.trans (arcPut_new hneg (fun h => hx1 h.1)))
            have e1 : ¬ (x.hi : Int) = (k : Int) - 1 := by omega
            clear hneg HPUT hx1 hfz
            go_wp2
            refine region_goes 126 26 rfl (fun W => W.cell? ⟨B0, k, none⟩ = some (.int .i64 t) ∧ W.cell? ⟨g, j * 3 + 1, none⟩ = some (.int .u8 x.hi) ∧ W.cell? ⟨g, j * 3 + 2, none⟩ = some (.int .i64 x.dest)) mixed ⟨c0, c1, c2⟩ (fun hHeld => ?_)
            refine goes_take0 (i := 0) (v := ?hv59) rfl (by kernel_rfl) (by kernel_rfl) (by kernel_rfl) rfl (fun _ _ _ h => h) (Or.inl ⟨by rfl, ?hy59⟩) (by assumption) ?hr59
            case hy59 => (intro W9 hW9; obtain ⟨k0, k1, k2⟩ := hW9; first | (go_simp; done) | (go_simp; with_reducible rfl))
            simp only [Act.put, getElem_toArray, getElem_cons_succ, getElem_cons_zero, setIfInBounds_toArray, set_cons_zero, set_cons_succ]
            refine goes_take0 (i := 1) (v := (.bool true)) rfl (by kernel_rfl) (by kernel_rfl) (by kernel_rfl) rfl (fun _ _ _ h => h) (Or.inl ⟨by rfl, ?hy60⟩) (by assumption) ?hr60
            case hy60 => (intro W9 hW9; obtain ⟨k0, k1, k2⟩ := hW9; first | (go_simp; done) | (go_simp; with_reducible rfl))
            simp only [Act.put, getElem_toArray, getElem_cons_succ, getElem_cons_zero, setIfInBounds_toArray, set_cons_zero, set_cons_succ]
            refine goes_take0 (i := 2) (v := (.bool true)) rfl (by kernel_rfl) (by kernel_rfl) (by kernel_rfl) rfl (fun _ _ _ h => h) (Or.inl ⟨by rfl, ?hy61⟩) (by assumption) ?hr61
            case hy61 => (intro W9 hW9; obtain ⟨k0, k1, k2⟩ := hW9; first | (go_simp; done) | (go_simp; with_reducible rfl))
            simp only [Act.put, getElem_toArray, getElem_cons_succ, getElem_cons_zero, setIfInBounds_toArray, set_cons_zero, set_cons_succ]
            refine goes_take0 (i := 3) (v := ?hv62) rfl (by kernel_rfl) (by kernel_rfl) (by kernel_rfl) rfl (fun _ _ _ h => h) (Or.inl ⟨by rfl, ?hy62⟩) (by assumption) ?hr62
            case hy62 => (intro W9 hW9; obtain ⟨k0, k1, k2⟩ := hW9; first | (go_simp; done) | (go_simp; with_reducible rfl))
            simp only [Act.put, getElem_toArray, getElem_cons_succ, getElem_cons_zero, setIfInBounds_toArray, set_cons_zero, set_cons_succ]
            refine goes_take0 (i := 4) (v := ?hv63) rfl (by kernel_rfl) (by kernel_rfl) (by kernel_rfl) rfl (fun _ _ _ h => h) (Or.inl ⟨by rfl, ?hy63⟩) (by assumption) ?hr63
            case hy63 => (intro W9 hW9; obtain ⟨k0, k1, k2⟩ := hW9; first | (go_simp; done) | (go_simp; with_reducible rfl))
            simp only [Act.put, getElem_toArray, getElem_cons_succ, getElem_cons_zero, setIfInBounds_toArray, set_cons_zero, set_cons_succ]
            refine goes_take0 (i := 5) (v := (.int .i64 (j : Int))) rfl (by kernel_rfl) (by kernel_rfl) (by kernel_rfl) rfl (fun _ _ _ h => h) (Or.inl ⟨by rfl, ?hy64⟩) (by assumption) ?hr64
            case hy64 => (intro W9 hW9; obtain ⟨k0, k1, k2⟩ := hW9; first | (go_simp; done) | (go_simp; with_reducible rfl))
            simp only [Act.put, getElem_toArray, getElem_cons_succ, getElem_cons_zero, setIfInBounds_toArray, set_cons_zero, set_cons_succ]
            refine goes_take0 (i := 6) (v := ?hv65) rfl (by kernel_rfl) (by kernel_rfl) (by kernel_rfl) rfl (fun _ _ _ h => h) (Or.inl ⟨by rfl, ?hy65⟩) (by assumption) ?hr65
            case hy65 => (intro W9 hW9; obtain ⟨k0, k1, k2⟩ := hW9; first | (go_simp; done) | (go_simp; with_reducible rfl))
            simp only [Act.put, getElem_toArray, getElem_cons_succ, getElem_cons_zero, setIfInBounds_toArray, set_cons_zero, set_cons_succ]
            refine goes_take0 (i := 7) (v := ?hv66) rfl (by kernel_rfl) (by kernel_rfl) (by kernel_rfl) rfl (fun _ _ _ h => h) (Or.inl ⟨by rfl, ?hy66⟩) (by assumption) ?hr66
            case hy66 => (intro W9 hW9; obtain ⟨k0, k1, k2⟩ := hW9; first | (go_simp; done) | (go_simp; with_reducible rfl))
            simp only [Act.put, getElem_toArray, getElem_cons_succ, getElem_cons_zero, setIfInBounds_toArray, set_cons_zero, set_cons_succ]
            refine goes_take0 (i := 8) (v := ?hv67) rfl (by kernel_rfl) (by kernel_rfl) (by kernel_rfl) rfl (fun _ _ _ h => h) (Or.inl ⟨by rfl, ?hy67⟩) (by assumption) ?hr67
            case hy67 => (intro W9 hW9; obtain ⟨k0, k1, k2⟩ := hW9; first | (go_simp; done) | (go_simp; with_reducible rfl))
            simp only [Act.put, getElem_toArray, getElem_cons_succ, getElem_cons_zero, setIfInBounds_toArray, set_cons_zero, set_cons_succ]
            refine goes_take0 (i := 9) (v := ?hv68) rfl (by kernel_rfl) (by kernel_rfl) (by kernel_rfl) rfl (fun _ _ _ h => h) (Or.inl ⟨by rfl, ?hy68⟩) (by assumption) ?hr68
            case hy68 => (intro W9 hW9; obtain ⟨k0, k1, k2⟩ := hW9; first | (go_simp; done) | (go_simp; with_reducible rfl))
            simp only [Act.put, getElem_toArray, getElem_cons_succ, getElem_cons_zero, setIfInBounds_toArray, set_cons_zero, set_cons_succ]
            refine goes_take0 (i := 10) (v := ?hv69) rfl (by kernel_rfl) (by kernel_rfl) (by kernel_rfl) rfl (fun _ _ _ h => h) (Or.inl ⟨by rfl, ?hy69⟩) (by assumption) ?hr69
            case hy69 => (intro W9 hW9; obtain ⟨k0, k1, k2⟩ := hW9; first | (go_simp; done) | (go_simp; with_reducible rfl))
            simp only [Act.put, getElem_toArray, getElem_cons_succ, getElem_cons_zero, setIfInBounds_toArray, set_cons_zero, set_cons_succ]
            refine goes_take0 (i := 11) (v := ?hv70) rfl (by kernel_rfl) (by kernel_rfl) (by kernel_rfl) rfl (fun _ _ _ h => h) (Or.inl ⟨by rfl, ?hy70⟩) (by assumption) ?hr70
            case hy70 => (intro W9 hW9; obtain ⟨k0, k1, k2⟩ := hW9; first | (go_simp; done) | (go_simp; with_reducible rfl))
            simp only [Act.put, getElem_toArray, getElem_cons_succ, getElem_cons_zero, setIfInBounds_toArray, set_cons_zero, set_cons_succ]
            refine goes_take0 (i := 12) (v := (.bool false)) rfl (by kernel_rfl) (by kernel_rfl) (by kernel_rfl) rfl (fun _ _ _ h => h) (Or.inl ⟨by rfl, ?hy71⟩) (by assumption) ?hr71
            case hy71 => (intro W9 hW9; obtain ⟨k0, k1, k2⟩ := hW9; first | (go_simp; done) | (go_simp; with_reducible rfl))
            simp only [Act.put, getElem_toArray, getElem_cons_succ, getElem_cons_zero, setIfInBounds_toArray, set_cons_zero, set_cons_succ]
            refine goes_take0 (i := 13) (v := (.bool false)) rfl (by kernel_rfl) (by kernel_rfl) (by kernel_rfl) rfl (fun _ _ _ h => h) (Or.inl ⟨by rfl, ?hy72⟩) (by assumption) ?hr72
            case hy72 => (intro W9 hW9; obtain ⟨k0, k1, k2⟩ := hW9; first | (go_simp; done) | (go_simp; with_reducible rfl))
            simp only [Act.put, getElem_toArray, getElem_cons_succ, getElem_cons_zero, setIfInBounds_toArray, set_cons_zero, set_cons_succ]
            refine goes_take0 (i := 14) (v := (.bool false)) rfl (by kernel_rfl) (by kernel_rfl) (by kernel_rfl) rfl (fun _ _ _ h => h) (Or.inl ⟨by rfl, ?hy73⟩) (by assumption) ?hr73
            case hy73 => (intro W9 hW9; obtain ⟨k0, k1, k2⟩ := hW9; first | (go_simp; done) | (go_simp; with_reducible rfl))
            simp only [Act.put, getElem_toArray, getElem_cons_succ, getElem_cons_zero, setIfInBounds_toArray, set_cons_zero, set_cons_succ]
            refine goes_take0 (i := 15) (v := undef) rfl (by kernel_rfl) (by kernel_rfl) (by kernel_rfl) rfl (fun _ _ _ h => h) (Or.inr ⟨by rfl, rfl⟩) (by assumption) ?_
            simp only [Act.put, getElem_toArray, getElem_cons_succ, getElem_cons_zero, setIfInBounds_toArray, set_cons_zero, set_cons_succ]
            refine goes_take0 (i := 16) (v := undef) rfl (by kernel_rfl) (by kernel_rfl) (by kernel_rfl) rfl (fun _ _ _ h => h) (Or.inr ⟨by rfl, rfl⟩) (by assumption) ?_
            simp only [Act.put, getElem_toArray, getElem_cons_succ, getElem_cons_zero, setIfInBounds_toArray, set_cons_zero, set_cons_succ]
            refine goes_take0 (i := 17) (v := undef) rfl (by kernel_rfl) (by kernel_rfl) (by kernel_rfl) rfl (fun _ _ _ h => h) (Or.inr ⟨by rfl, rfl⟩) (by assumption) ?_
            simp only [Act.put, getElem_toArray, getElem_cons_succ, getElem_cons_zero, setIfInBounds_toArray, set_cons_zero, set_cons_succ]
            refine goes_take0 (i := 18) (v := undef) rfl (by kernel_rfl) (by kernel_rfl) (by kernel_rfl) rfl (fun _ _ _ h => h) (Or.inr ⟨by rfl, rfl⟩) (by assumption) ?_
            simp only [Act.put, getElem_toArray, getElem_cons_succ, getElem_cons_zero, setIfInBounds_toArray, set_cons_zero, set_cons_succ]
            refine goes_take0 (i := 19) (v := undef) rfl (by kernel_rfl) (by kernel_rfl) (by kernel_rfl) rfl (fun _ _ _ h => h) (Or.inr ⟨by rfl, rfl⟩) (by assumption) ?_
            simp only [Act.put, getElem_toArray, getElem_cons_succ, getElem_cons_zero, setIfInBounds_toArray, set_cons_zero, set_cons_succ]
            refine goes_take0 (i := 20) (v := undef) rfl (by kernel_rfl) (by kernel_rfl) (by kernel_rfl) rfl (fun _ _ _ h => h) (Or.inr ⟨by rfl, rfl⟩) (by assumption) ?_
            simp only [Act.put, getElem_toArray, getElem_cons_succ, getElem_cons_zero, setIfInBounds_toArray, set_cons_zero, set_cons_succ]
            refine goes_take0 (i := 21) (v := undef) rfl (by kernel_rfl) (by kernel_rfl) (by kernel_rfl) rfl (fun _ _ _ h => h) (Or.inr ⟨by rfl, rfl⟩) (by assumption) ?_
            simp only [Act.put, getElem_toArray, getElem_cons_succ, getElem_cons_zero, setIfInBounds_toArray, set_cons_zero, set_cons_succ]
            refine goes_take0 (i := 22) (v := undef) rfl (by kernel_rfl) (by kernel_rfl) (by kernel_rfl) rfl (fun _ _ _ h => h) (Or.inr ⟨by rfl, rfl⟩) (by assumption) ?_
            simp only [Act.put, getElem_toArray, getElem_cons_succ, getElem_cons_zero, setIfInBounds_toArray, set_cons_zero, set_cons_succ]
            refine goes_take0 (i := 23) (v := undef) rfl (by kernel_rfl) (by kernel_rfl) (by kernel_rfl) rfl (fun _ _ _ h => h) (Or.inr ⟨by rfl, rfl⟩) (by assumption) ?_
            simp only [Act.put, getElem_toArray, getElem_cons_succ, getElem_cons_zero, setIfInBounds_toArray, set_cons_zero, set_cons_succ]
            refine goes_take0 (i := 24) (v := undef) rfl (by kernel_rfl) (by kernel_rfl) (by kernel_rfl) rfl (fun _ _ _ h => h) (Or.inr ⟨by rfl, rfl⟩) (by assumption) ?_
            simp only [Act.put, getElem_toArray, getElem_cons_succ, getElem_cons_zero, setIfInBounds_toArray, set_cons_zero, set_cons_succ]
            refine goes_take0 (i := 25) (v := (.bool false)) rfl (by kernel_rfl) (by kernel_rfl) (by kernel_rfl) rfl (fun _ _ _ h => h) (Or.inl ⟨by rfl, ?hy74⟩) (by assumption) ?hr74
            case hy74 => (intro W9 hW9; obtain ⟨k0, k1, k2⟩ := hW9; first | (go_simp; done) | (go_simp; with_reducible rfl))
            simp only [Act.put, getElem_toArray, getElem_cons_succ, getElem_cons_zero, setIfInBounds_toArray, set_cons_zero, set_cons_succ]
            refine goes_done (by kernel_rfl) ?_ _
            go_wp2_with (at_builtin; refine wpList_append_lies _ rfl _ _ 39 rfl (B0 + 1) 38 i0 (.agg #[.int .u8 0, .int .u8 0, .int .i64 0]) 3 16 Try.underlying39 HI.out.1 HI.out.2.1 HI.out.2.2.1 HI.out.2.2.2 rfl (by decide) (.slice (some ⟨g, 0, none⟩) (j + 1) cap) (j + 1) (flatA (lp ++ [x])) rfl HRA.out ⟨wr.heap.size, 0, none⟩ 1 1 [.int .u8 k, .int .u8 k, .int .i64 t] rfl rfl (news_in (cs := #[.int .u8 k, .int .u8 k, .int .i64 t]) (heap_alloc_new wr _)) (by simp [Value.oneCell']) (by omega) (by unfold maxLen; omega) (by omega) (by simp; omega) (wr.heap.size + 1) (by simp) ?_; intro g2 cap2 w8 h2 h3 h4 h5; have HP1 := Lib.hid (push3 HBR.out HROW.out (Nat.le_succ B0) (by omega) ((Below.refl _ _).alloc (Nat.le_refl _) _).drew h3); have HP2 := Lib.hid (iblk_push HBL.out HROW.out hB1 ((Below.refl _ _).alloc (Nat.le_refl _) _).drew h3); have hsz8 := h3.size; have HP3 := Lib.hid h2; clear h2 h3 h4 h5)
            go_roundw
            case rel => exact ⟨k + 1, num_succ k, by omega, by simp at hsz8; omega, by have := HP3.out; rw [HNEW.out, HLN.out, HFL.out]; exact Lib.hid this, HP2, HP1⟩
            case measure => simp [intOf]; omega
    · obtain rfl : k = 256 := by omega
      have hd : decide (((256 : Nat) : Int) < 256) = false := by simp
      go_wp2
      exact bodyPost_ret (v := u3) (by simp [results, Try.results29, go_sem, *]) rfl ⟨u3, rfl, Lib.hid (own_weak HROW.out (Nat.le_succ _)), HBR⟩
end Go.Proofs.Ytamgldhnfcikbaa
