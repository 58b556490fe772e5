/- Texts that a proof rests on: Contract: where a state leads by each byte. | Small contracts of layer 8: right, sound, accept, find, Bools, accepting. | Contract: the reference's leads: which states lead to an end. | Contract: the reference's reached: which states are reached from the first one. | Contract: the reference's Useful. | Contract: the reference's comparison of two rows of Booleans. | Groups of numbers: the head of a number's group. -/
import Derived.Test.YtamgldhnfcikbaaK07
import Derived.Deep.MidRow
import Derived.Laws.CopyOwn
import Derived.Test.YtamgldhnfcikbaaK06
import Derived.Deep.CutRange
set_option maxRecDepth 100000
namespace Go.Proofs.Ytamgldhnfcikbaa
open Go.RowKit

theorem zero_ints : Try.zeroCells49 = Ints fun _ => 0 := by kernel_rfl
theorem ints_congr {f g : Nat → Int} (h : ∀ i, i < 256 → f i = g i) : Ints f = Ints g := by
  unfold Ints
  congr 1
  exact List.map_congr_left fun i hi => by rw [h i (by simpa using hi)]
theorem ints_set {k : Nat} {f g : Nat → Int} {v : Int} (hk : g k = v) (h : ∀ i, i < 256 → i ≠ k → f i = g i) : (Ints f).setIfInBounds k (.int .i64 v) = Ints g := by
  apply Array.ext
  · simp [Ints]
  · intro i h1 h2
    have hi : i < 256 := by simpa [Ints] using h2
    rw [Array.getElem_setIfInBounds (by simpa using h1)]
    by_cases e : k = i
    · subst e; simp [Ints, hk]
    · rw [if_neg e]; simp [Ints, h i hi (fun x => e x.symm)]
theorem IBlk.congr {w : World} {b : Nat} {f g : Nat → Int} (h : IBlk w b f) (hf : ∀ i, i < 256 → f i = g i) : IBlk w b g := by
  unfold IBlk at *
  rw [h, ints_congr hf]
theorem IBlk.set {w : World} {b k : Nat} {f g : Nat → Int} {v : Int} (h : IBlk w b f) (hk : g k = v) (hf : ∀ i, i < 256 → i ≠ k → f i = g i) : IBlk (w.setCell ⟨b, k, none⟩ (.int .i64 v)) b g := by
  unfold IBlk
  rw [setCell_block h, ints_set hk hf]
theorem IBlk.frozen {w : World} {b i : Nat} {f : Nat → Int} (h : IBlk w b f) : w.frozen? ⟨b, i, none⟩ = false := frozen_row (j := i) h
theorem infoInts : (Try.prog.info? 49).map (·.size) = some 256 := by kernel_rfl
theorem ints_size (f : Nat → Int) : (Ints f).size = 256 := by simp [Ints]
theorem load_ints {w : World} {b : Nat} {f : Nat → Int} (h : IBlk w b f) : (loadVar 49 ⟨b, 0, none⟩).run Try.prog w = .ok (.agg (Ints f)) w :=
  run_loadVar_row w b _ _ _ _ _ h Try.underlying49 rfl (by rw [infoInts, ints_size])
theorem store_ints {w : World} {b : Nat} {f g : Nat → Int} (h : IBlk w b f) : (storeVar 49 ⟨b, 0, none⟩ (.agg (Ints g))).run Try.prog w = .ok () (w.setRow b (Ints g)) :=
  run_storeVar_row w b _ _ _ _ h (by rw [infoInts, ints_size]) (by rw [ints_size, ints_size]) (Array.all_eq_true_iff_forall_mem.2 fun v hv => by
    simp only [Ints, List.mem_toArray, List.mem_map] at hv
    obtain ⟨i, _, rfl⟩ := hv; rfl)
theorem IBlk.setRow {w : World} {b : Nat} {f g : Nat → Int} (h : IBlk w b f) : IBlk (w.setRow b (Ints g)) b g := by
  unfold IBlk at *
  show (w.heap.modify b _)[b]? = _
  rw [Array.getElem?_modify, if_pos rfl, h]
  rfl
theorem wpList_load_ints {ops : Array Oper} {rest : List Oper} {op : Oper} {a : Act} {w : World} {Q : Exit → Act → World → Prop} (b : Nat) (f : Nat → Int) (hb : IBlk w b f) (hgd : op.guard = none) (x : Operand) (ho : op.op = .load 49 x)
    (hx : a.eval x = .pointer (some ⟨b, 0, none⟩)) (h : wpList Try.prog ops Q rest (a.put op.dst (.agg (Ints f))) w) : wpList Try.prog ops Q (op :: rest) a w :=
  wpList_plain hgd fun _ hK => by
    unfold Oper.wp execOp
    simp only [ho, hx, Instr.loadAt, Instr.sureAddr, Sem.run_bind, Sem.run_pure, Result.andThen_ok, load_ints hb]
    exact hK _ _ h
theorem wpList_store_ints {ops : Array Oper} {rest : List Oper} {op : Oper} {a : Act} {w : World} {Q : Exit → Act → World → Prop} (b : Nat) (f g : Nat → Int) (hb : IBlk w b f) (hgd : op.guard = none) (x y : Operand) (ho : op.op = .store 49 x y)
    (hx : a.eval x = .pointer (some ⟨b, 0, none⟩)) (hy : a.eval y = .agg (Ints g)) (h : wpList Try.prog ops Q rest (a.put op.dst undef) (w.setRow b (Ints g))) : wpList Try.prog ops Q (op :: rest) a w :=
  wpList_plain hgd fun _ hK => by
    unfold Oper.wp execOp
    simp only [ho, hx, hy, Instr.storeAt, Instr.sureAddr, Sem.run_bind, Sem.run_pure, Result.andThen_ok, store_ints hb]
    exact hK _ _ h
theorem ints_result {w : World} {b : Nat} {f : Nat → Int} (h : IBlk w b f) {tmps : Array Value} (ht : tmps.getD 4 undef = .pointer (some ⟨b, 0, none⟩)) : (results Try.f44 tmps).run Try.prog w = .ok (.agg (Ints f)) w :=
  results_cell_row (fn := Try.f44) rfl tmps w b _ _ _ _ ht h Try.underlying49 rfl (by rw [infoInts, ints_size])
def ABlk (w : World) (b : Nat) (a : Arc3) : Prop := w.heap[b]? = some (.cells #[.int .u8 a.lo, .int .u8 a.hi, .int .i64 a.dest] 38 (0, 0))
theorem ABlk.cells {w : World} {b : Nat} {a : Arc3} (h : ABlk w b a) : w.cell? ⟨b, 0, none⟩ = some (.int .u8 a.lo) ∧ w.cell? ⟨b, 1, none⟩ = some (.int .u8 a.hi) ∧ w.cell? ⟨b, 2, none⟩ = some (.int .i64 a.dest) := by
  unfold ABlk at h
  simp [World.cell?, h]
theorem ABlk.other {w : World} {b : Nat} {x : Arc3} (h : ABlk w b x) {a : Addr} (ha : b ≠ a.block) (u : Value) : ABlk (w.setCell a u) b x := by
  unfold ABlk
  rw [Below.heap_setCell _ _ _ _ ha]; exact h
theorem ABlk.lt {w : World} {b : Nat} {x : Arc3} (h : ABlk w b x) : b < w.heap.size := lt_of_block h
def putArc (f : Nat → Int) (a : Arc3) : Nat → Int := fun b => if a.has b then a.dest else f b
def putArcs (l : List Arc3) : Nat → Int := l.foldl putArc fun _ => -1
theorem putArcs_take {l : List Arc3} {i : Nat} (h : i < l.length) : putArcs (l.take (i + 1)) = putArc (putArcs (l.take i)) l[i] := by
  unfold putArcs
  rw [List.take_succ_eq_append_getElem h, List.foldl_append]; rfl
theorem firstTo_append (l r : List Arc3) (b : Nat) (h : ∀ a ∈ l, a.has b = false) : firstTo (l ++ r) b = firstTo r b := by
  induction l with
  | nil => rfl
  | cons a l ih =>
    show (if a.has b then a.dest else firstTo (l ++ r) b) = _
    rw [h a (by simp), if_neg (by decide)]
    exact ih fun x hx => h x (by simp [hx])
theorem firstTo_snoc (l : List Arc3) (a : Arc3) (b : Nat) (h : a.has b = false) : firstTo (l ++ [a]) b = firstTo l b := by
  induction l with
  | nil => show (if a.has b then a.dest else -1) = -1; rw [h]; rfl
  | cons c l ih =>
    show (if c.has b then c.dest else firstTo (l ++ [a]) b) = (if c.has b then c.dest else firstTo l b)
    rw [ih]
theorem fits_arc {n : Nat} {l : List Arc3} (h : fitsB n l = true) {i : Nat} (hi : i < l.length) : l[i].lo ≤ l[i].hi ∧ 0 ≤ l[i].dest ∧ l[i].dest < n := by
  have := fits_iff.1 h i hi
  unfold fitAt arcOk at this
  simp only [Bool.and_eq_true, decide_eq_true_eq] at this
  omega
theorem fits_next {n : Nat} {l : List Arc3} (h : fitsB n l = true) {i : Nat} (hi : i + 1 < l.length) : l[i].hi < l[i + 1].lo := by
  have h1 := fits_iff.1 h (i + 1) hi
  unfold fitAt at h1
  rw [prevOk_succ (by omega)] at h1
  unfold behindB at h1
  simp only [Bool.and_eq_true, Bool.or_eq_true, decide_eq_true_eq] at h1
  omega
theorem fits_rise {n : Nat} {l : List Arc3} (h : fitsB n l = true) : ∀ k (hk : k < l.length) i (hi : i < k), l[i].hi < l[k].lo := by
  intro k
  induction k with
  | zero => intro _ i hi; omega
  | succ k ih =>
    intro hk i hi
    have h1 := fits_next h hk
    by_cases e : i = k
    · subst e; exact h1
    · have h2 := ih (by omega) i (by omega)
      have h3 := fits_arc h (show k < l.length by omega)
      omega
theorem putArcs_first {n : Nat} {l : List Arc3} (h : fitsB n l = true) (b : Nat) : ∀ k, k ≤ l.length → putArcs (l.take k) b = firstTo (l.take k) b := by
  intro k
  induction k with
  | zero => intro _; rfl
  | succ k ih =>
    intro hk
    rw [putArcs_take (show k < l.length by omega), List.take_succ_eq_append_getElem (show k < l.length by omega)]
    unfold putArc
    cases hb : l[k].has b
    · rw [firstTo_snoc _ _ _ hb, ← ih (by omega)]; rfl
    · rw [firstTo_append _ _ _ fun a ha => ?_]
      · show _ = if l[k].has b then l[k].dest else -1
        rw [hb]; rfl
      · obtain ⟨i, hi, rfl⟩ := List.getElem_of_mem ha
        simp only [List.length_take] at hi
        rw [List.getElem_take]
        have h1 := fits_rise h k (by omega) i (by omega)
        unfold Arc3.has at hb ⊢
        simp only [Bool.and_eq_true, decide_eq_true_eq] at hb
        rw [Bool.and_eq_false_iff]
        right
        rw [decide_eq_false_iff_not]
        omega
set_option maxHeartbeats 4000000 in
theorem targets_any (v : Value) (m : List Sta) (s : Int) (w : World) (hv : MachAt w v m) (hl : ∀ s ∈ m, s.arcs.length < 9223372036854775808) (hm : Mays m) (hs : s = -1 ∨ ∃ k : Nat, s = k ∧ k < m.length) (hfit : ∀ s ∈ m, fitsB m.length s.arcs = true) :
    Calls Try.prog 44 #[v, .int .i64 s] w fun e w' => e = .returned (.agg (Ints (nextS m s))) ∧ Below w.heap.size w w' := by
  obtain ⟨av, cv, rfl⟩ := hv.len
  have HV := Lib.hid hv
  have HL := Lib.hid hl
  have HM := Lib.hid hm
  have HF := Lib.hid hfit
  have HS := Lib.hid hs
  clear hv hl hm hfit hs
  obtain ⟨B0, hB⟩ : ∃ B, w.heap.size = B := ⟨_, rfl⟩
  have Z := zero_ints
  have hB1 : B0 ≠ B0 + 1 := by omega
  have HA0 : Hid (IBlk ((w.alloc (.cells (Ints fun _ => 0) 49)).alloc (.cells (Ints fun _ => 0) 49)) B0 fun _ => 0) := Lib.hid (by
    have := heap_alloc_new w (.cells (Ints fun _ => 0) 49)
    rw [hB] at this
    exact (Below.heap_alloc _ _ B0 (by simp; omega)).trans this)
  have HA1 : Hid (IBlk ((w.alloc (.cells (Ints fun _ => 0) 49)).alloc (.cells (Ints fun _ => 0) 49)) (B0 + 1) fun _ => 0) := Lib.hid (by
    have := heap_alloc_new (w.alloc (.cells (Ints fun _ => 0) 49)) (.cells (Ints fun _ => 0) 49)
    rw [World.size_alloc, hB] at this
    exact this)
  have HBW : Hid (Below B0 w ((w.alloc (.cells (Ints fun _ => 0) 49)).alloc (.cells (Ints fun _ => 0) 49))) := Lib.hid (by rw [← hB]; exact below2 _ _ _)
  have hsz : B0 + 2 ≤ ((w.alloc (.cells (Ints fun _ => 0) 49)).alloc (.cells (Ints fun _ => 0) 49)).heap.size := by simp; omega
  rw [hB]
  rw [← Z] at HA0 HA1 HBW hsz
  clear Z
  go_enter Try.func44, Try.ntmps44
  go_wp2
  go_loopw [10] (fun z wr => ∃ k : Nat, z = .int .i64 k ∧ k ≤ 256 ∧ B0 + 2 ≤ wr.heap.size ∧ Hid (IBlk wr (B0 + 1) fun i => if i < k then -1 else 0) ∧ Hid (IBlk wr B0 fun _ => 0) ∧ Hid (Below B0 w wr)) (fun z _ => 256 - (intOf z).toNat)
  case atStart => exact ⟨0, rfl, Nat.zero_le _, hsz, Lib.hid (HA1.out.congr fun i _ => by rw [if_neg (by omega)]), HA0, HBW⟩
  case round =>
    clear HA0 HA1 HBW hsz
    obtain ⟨k, rfl, hk, hsz, HA1, HA0, HBW⟩ := hrel
    by_cases hlt : k < 256
    · have hd : decide ((k : Int) < 256) = true := decide_eq_true (by omega)
      have hk256 : (k : Int) < 256 := by omega
      have hfz : wr.frozen? ⟨B0 + 1, k, none⟩ = false := HA1.out.frozen
      have c0 := HA1.out.cell hlt
      have HN1 := Lib.hid (HA1.out.set (k := k) (g := fun i => if i < k + 1 then -1 else 0) (v := -1) (by simp) (fun i _ hne => by
        by_cases h : i < k
        · rw [if_pos h, if_pos (by omega)]
        · rw [if_neg h, if_neg (by omega)]))
      have HN0 := Lib.hid (HA0.out.other (a := ⟨B0 + 1, k, none⟩) hB1 (.int .i64 (-1)))
      have HNB : Hid (Below B0 w (wr.setCell ⟨B0 + 1, k, none⟩ (.int .i64 (-1)))) := Lib.hid (HBW.out.setCell (Nat.le_succ B0) _)
      go_wp2
      go_roundw
      case rel => exact ⟨k + 1, num_succ k, by omega, by simp; omega, HN1, HN0, HNB⟩
      case measure => simp [intOf]; omega
    · obtain rfl : k = 256 := by omega
      have hd : decide (((256 : Nat) : Int) < 256) = false := by simp
      replace HA1 := Lib.hid (HA1.out.congr (g := fun _ => -1) fun i hi => by rw [if_pos hi])
      rcases HS.out with rfl | ⟨k, rfl, hkm⟩
      · clear HS
        go_wp2_with (first | (refine wpList_load_ints (B0 + 1) (fun _ => -1) HA1.out rfl _ rfl rfl ?_) | (refine wpList_store_ints B0 (fun _ => 0) (fun _ => -1) HA0.out rfl _ _ rfl rfl rfl ?_))
        have HRES := Lib.hid (HA0.out.setRow (g := fun _ => -1))
        have HRB := Lib.hid (below_setRow HBW.out (Nat.le_refl B0) (Ints fun _ => -1))
        generalize wr.setRow B0 (Ints fun _ => -1) = w9 at *
        exact bodyPost_ret (v := .agg (Ints fun _ => -1)) (ints_result HRES.out rfl) rfl ⟨by rw [ints_congr fun i _ => next_nowhere m i], HRB.out⟩
      · have hne : ((k : Int) == -1) = false := by simp
        have hkl : (k : Int) < m.length := by omega
        obtain ⟨b, o, va, rfl, e0, e1, ha⟩ := HV.out.at rfl hkm
        obtain ⟨aa, ca, rfl⟩ := ha.len
        have hls := HL.out m[k] (List.getElem_mem hkm)
        have HMS := Lib.hid (HM.out m[k] (List.getElem_mem hkm)).2
        have HFI := Lib.hid (HF.out m[k] (List.getElem_mem hkm))
        have HNX := Lib.hid (show ∀ i, nextS m k i = firstTo m[k].arcs i from fun i => by
          unfold nextS
          rw [dif_pos ⟨by omega, by simpa using hkm⟩]; rfl)
        have HA := Lib.hid ha
        have e1' := cell_below (hB.symm ▸ HBW.out) e1
        clear ha e0 e1 HV HL HM HF HS
        generalize m[k].arcs = l at *
        go_wp2
        clear e1'
        go_loopw [25] (fun z wr => ∃ k : Nat, z = .int .i64 k ∧ k ≤ l.length ∧ B0 + 2 ≤ wr.heap.size ∧ Hid (IBlk wr (B0 + 1) (putArcs (l.take k))) ∧ Hid (IBlk wr B0 fun _ => 0) ∧ Hid (Below B0 w wr)) (fun z _ => l.length - (intOf z).toNat)
        case atStart => exact ⟨0, rfl, Nat.zero_le _, hsz, HA1, HA0, HBW⟩
        case round =>
          clear HA0 HA1 HBW hsz
          obtain ⟨i, rfl, hi, hsz, HA1, HA0, HBW⟩ := hrel
          by_cases hlt : i < l.length
          · have hd : decide ((i : Int) < l.length) = true := decide_eq_true (by omega)
            obtain ⟨g, u, rfl, a0, a1, a2⟩ := HA.out.at rfl hlt
            obtain ⟨hm1, hm2, hm3, hm4⟩ := HMS.out l[i] (List.getElem_mem hlt)
            obtain ⟨hlo, _, _⟩ := fits_arc HFI.out hlt
            have HPUT := Lib.hid (putArcs_take hlt)
            generalize l[i] = a at *
            have hbw := HBW.out
            rw [← hB] at hbw
            replace a0 := cell_below hbw a0
            replace a1 := cell_below hbw a1
            replace a2 := cell_below hbw a2
            clear hbw
            generalize putArcs (l.take i) = f at *
            obtain ⟨Bx, hBx⟩ : ∃ Bx, wr.heap.size = Bx := ⟨_, rfl⟩
            have HX : Hid (ABlk (wr.alloc (.cells #[.int .u8 a.lo, .int .u8 a.hi, .int .i64 a.dest] 38)) Bx a) := Lib.hid (by rw [← hBx]; exact heap_alloc_new wr _)
            have hb2 : Below wr.heap.size wr (wr.alloc (.cells #[.int .u8 a.lo, .int .u8 a.hi, .int .i64 a.dest] 38)) := new_one _ _
            have H1 := Lib.hid ((HA1.out.below hb2).congr (g := fun b => if a.lo ≤ b ∧ b < a.lo then a.dest else f b) fun b _ => by rw [if_neg (by omega)])
            have H0 := Lib.hid (HA0.out.below hb2)
            have HBN := Lib.hid (HBW.out.trans (hb2.mono (by omega)))
            have hxb : B0 + 1 ≠ Bx := by omega
            have hxb2 : Bx ≠ B0 + 1 := by omega
            clear hb2 HA1 HA0 HBW
            go_wp2
            clear a0 a1 a2
            go_loopw [9] (fun z ws => ∃ c : Nat, z = .int .i64 c ∧ a.lo ≤ c ∧ c ≤ a.hi + 1 ∧ B0 + 2 ≤ Bx ∧ Hid (ABlk ws Bx a) ∧ Hid (IBlk ws (B0 + 1) fun b => if a.lo ≤ b ∧ b < c then a.dest else f b) ∧ Hid (IBlk ws B0 fun _ => 0) ∧ Hid (Below B0 w ws)) (fun z _ => a.hi + 1 - (intOf z).toNat)
            case atStart => exact ⟨a.lo, rfl, Nat.le_refl _, by omega, by omega, HX, H1, H0, HBN⟩
            case round =>
              clear HX H1 H0 HBN
              obtain ⟨c, rfl, hc1, hc2, hsx, HX, H1, H0, HBN⟩ := hrel
              obtain ⟨x0, x1, x2⟩ := HX.out.cells
              by_cases hle : c ≤ a.hi
              · have hd2 : decide ((c : Int) ≤ a.hi) = true := decide_eq_true (by omega)
                have hc256 : c < 256 := by omega
                have hc9 : (c : Int) < 256 := by omega
                have hfz : wr.frozen? ⟨B0 + 1, c, none⟩ = false := H1.out.frozen
                have y0 := H1.out.cell hc256
                have N1 := Lib.hid (H1.out.set (k := c) (g := fun b => if a.lo ≤ b ∧ b < c + 1 then a.dest else f b) (v := a.dest) (by rw [if_pos ⟨by omega, by omega⟩]) (fun b _ hne => by
                  by_cases h : a.lo ≤ b ∧ b < c
                  · rw [if_pos h, if_pos ⟨h.1, by omega⟩]
                  · rw [if_neg h, if_neg (by omega)]))
                have N0 := Lib.hid (H0.out.other (a := ⟨B0 + 1, c, none⟩) hB1 (.int .i64 a.dest))
                have NX := Lib.hid (HX.out.other (a := ⟨B0 + 1, c, none⟩) hxb2 (.int .i64 a.dest))
                have NB : Hid (Below B0 w (wr.setCell ⟨B0 + 1, c, none⟩ (.int .i64 a.dest))) := Lib.hid (HBN.out.setCell (Nat.le_succ B0) _)
                go_wp2
                go_roundw
                case rel => exact ⟨c + 1, num_succ c, by omega, by omega, hsx, NX, N1, N0, NB⟩
                case measure => simp [intOf]; omega
              · have hd2 : decide ((c : Int) ≤ a.hi) = false := decide_eq_false (by omega)
                have hlt9 := HX.out.lt
                have N1 := Lib.hid (H1.out.congr (g := putArc f a) fun b _ => by
                  unfold putArc Arc3.has
                  by_cases h : a.lo ≤ b ∧ b < c
                  · rw [if_pos h, decide_eq_true h.1, decide_eq_true (show b ≤ a.hi by omega)]; rfl
                  · rw [if_neg h]
                    by_cases h1 : a.lo ≤ b
                    · rw [decide_eq_false (show ¬ b ≤ a.hi by omega), Bool.and_false]; rfl
                    · rw [decide_eq_false h1]; rfl)
                go_wp2
                go_roundw
                case rel => exact ⟨i + 1, num_succ i, by omega, by omega, by rw [HPUT.out]; exact N1, H0, HBN⟩
                case measure => simp [intOf]; omega
          · obtain rfl : i = l.length := by omega
            have hd : decide ((l.length : Int) < l.length) = false := by simp
            have HRES := Lib.hid (HA0.out.setRow (g := putArcs (l.take l.length)))
            have HRB := Lib.hid (below_setRow HBW.out (Nat.le_refl B0) (Ints (putArcs (l.take l.length))))
            go_wp2_with (first | (refine wpList_load_ints (B0 + 1) (putArcs (l.take l.length)) HA1.out rfl _ rfl rfl ?_) | (refine wpList_store_ints B0 (fun _ => 0) (putArcs (l.take l.length)) HA0.out rfl _ _ rfl rfl rfl ?_))
            generalize wr.setRow B0 (Ints (putArcs (l.take l.length))) = w9 at *
            exact bodyPost_ret (v := .agg (Ints (putArcs (l.take l.length)))) (ints_result HRES.out rfl) rfl ⟨by
              rw [ints_congr fun i _ => ((putArcs_first HFI.out i l.length (Nat.le_refl _)).trans (by rw [List.take_length])).trans (HNX.out i).symm], HRB.out⟩
end Go.Proofs.Ytamgldhnfcikbaa
set_option maxRecDepth 100000
namespace Go.Proofs.Ytamgldhnfcikbaa
open Go.RowKit

def soundS (m : List Sta) : List Sta := if checkB m then m else []
def Sound (w : World) (m : List Sta) (e : Ending) (w' : World) : Prop := ∃ u, e = .returned u ∧ Hid (MachAt w u (soundS m)) ∧ Hid (Below w.heap.size w w')
theorem right_any (v : Value) (m : List Sta) (w : World) (hv : MachAt w v m) (hl : ∀ s ∈ m, s.arcs.length < 9223372036854775808) (hm : Mays m) :
    Calls Try.prog 24 #[v] w (Sound w m) := by
  have HC := Lib.hid (rcheck07_any v m w hv hl hm)
  have HV := Lib.hid hv
  have HS := Lib.hid (show soundS m = if checkB m then m else [] from rfl)
  clear hv hl hm
  cases hc : checkB m
  · rw [hc] at HS HC
    have HN := Lib.hid (MachAt.nil w)
    go_enter Try.func24, Try.ntmps24
    go_wp2_with (go_at_call 19; refine HC.out.mono ?_; rintro e w5 ⟨rfl, hb⟩; have HB := Lib.hid hb; clear hb; simp only [errV, Bool.false_eq_true, if_false])
    go_ret
    exact ⟨_, rfl, by rw [HS.out]; exact HN, HB⟩
  · rw [hc] at HS HC
    go_enter Try.func24, Try.ntmps24
    go_wp2_with (go_at_call 19; refine HC.out.mono ?_; rintro e w5 ⟨rfl, hb⟩; have HB := Lib.hid hb; clear hb; simp only [errV, if_true])
    go_ret
    exact ⟨_, rfl, by rw [HS.out]; exact HV, HB⟩
theorem sound_any (v : Value) (m : List Sta) (w : World) (hv : MachAt w v m) (hl : ∀ s ∈ m, s.arcs.length < 9223372036854775808) (hm : Mays m) :
    Calls Try.prog 30 #[v] w (Sound w m) := by
  have HC := Lib.hid (check_any v m w hv hl hm)
  have HV := Lib.hid hv
  have HS := Lib.hid (show soundS m = if checkB m then m else [] from rfl)
  clear hv hl hm
  cases hc : checkB m
  · rw [hc] at HS HC
    have HN := Lib.hid (MachAt.nil w)
    go_enter Try.func30, Try.ntmps30
    go_wp2_with (go_at_call 52; refine HC.out.mono ?_; rintro e w5 ⟨rfl, hb⟩; have HB := Lib.hid hb; clear hb; simp only [errV, Bool.false_eq_true, if_false])
    go_ret
    exact ⟨_, rfl, by rw [HS.out]; exact HN, HB⟩
  · rw [hc] at HS HC
    go_enter Try.func30, Try.ntmps30
    go_wp2_with (go_at_call 52; refine HC.out.mono ?_; rintro e w5 ⟨rfl, hb⟩; have HB := Lib.hid hb; clear hb; simp only [errV, if_true])
    go_ret
    exact ⟨_, rfl, by rw [HS.out]; exact HV, HB⟩
theorem soundS_ok (m : List Sta) : checkB (soundS m) = true := by
  unfold soundS
  cases h : checkB m
  · rfl
  · exact h
theorem accept_any (v : Value) (m : List Sta) (s : Int) (w : World) (hv : MachAt w v m) :
    Calls Try.prog 40 #[v, .int .i64 s] w fun e w' => e = .returned (.int .u64 (accS m s)) ∧ w' = w := by
  obtain ⟨av, cv, rfl⟩ := hv.len
  by_cases h0 : s < 0
  · have d1 : decide (s < 0) = true := decide_eq_true h0
    have HR := Lib.hid (accS_none (m := m) (.inl h0))
    clear hv
    go_enter Try.func40, Try.ntmps40
    go_wp2
    go_ret
    exact ⟨by rw [HR.out]; rfl, rfl⟩
  · have d1 : decide (s < 0) = false := decide_eq_false h0
    by_cases h1 : (m.length : Int) ≤ s
    · have d2 : decide (s ≥ m.length) = true := decide_eq_true h1
      have d3 : decide ((m.length : Int) ≤ s) = true := decide_eq_true h1
      have HR := Lib.hid (accS_none (m := m) (.inr h1))
      clear hv
      go_enter Try.func40, Try.ntmps40
      go_wp2
      go_ret
      exact ⟨by rw [HR.out]; rfl, rfl⟩
    · obtain ⟨k, rfl⟩ : ∃ k : Nat, s = k := ⟨s.toNat, by omega⟩
      have hk : k < m.length := by omega
      have d2 : decide ((k : Int) ≥ m.length) = false := decide_eq_false h1
      have d3 : decide ((m.length : Int) ≤ k) = false := decide_eq_false h1
      obtain ⟨b, o, va, rfl, e0, e1, ha⟩ := hv.at rfl hk
      have HR := Lib.hid (accS_at hk)
      clear hv ha e1
      generalize m[k].acc = x at *
      have hkl : (k : Int) < m.length := by omega
      go_enter Try.func40, Try.ntmps40
      go_wp2
      go_ret
      exact ⟨by rw [HR.out]; rfl, rfl⟩
def FindP (l : List Int) (n r : Int) : Prop := (r = -1 ∧ n ∉ l) ∨ ∃ k : Nat, ∃ h : k < l.length, r = k ∧ l[k] = n ∧ ∀ i (hi : i < l.length), i < k → l[i] ≠ n
theorem rfind_any (v : Value) (l : List Int) (n : Int) (w : World) (hl : l.length < 9223372036854775808) (hv : RdV w v (l.map (Value.int .i64))) :
    Calls Try.prog 28 #[v, .int .i64 n] w fun e w' => ∃ r, e = .returned (.int .i64 r) ∧ FindP l n r ∧ w' = w := by
  obtain ⟨av, cv, hve⟩ := hv.len
  rw [List.length_map] at hve
  subst hve
  have HV := Lib.hid hv
  clear hv
  go_enter Try.func28, Try.ntmps28
  go_wp2
  go_loopw [5] (fun i wr => ∃ k : Nat, k ≤ l.length ∧ i = .int .i64 k ∧ Hid (∀ i (h : i < l.length), i < k → l[i] ≠ n) ∧ wr = w) (fun i _ => l.length - (intOf i).toNat)
  case atStart => exact ⟨0, by omega, rfl, Lib.hid fun i _ h => by omega, rfl⟩
  case round =>
    obtain ⟨k, hkl, rfl, HP, rfl⟩ := hrel
    by_cases hlt : k < l.length
    · have hdd : decide ((k : Int) < l.length) = true := decide_eq_true (by omega)
      obtain ⟨b, o, c, hve, e0⟩ := HV.out.at (show k < (l.map (Value.int .i64)).length by simpa using hlt)
      rw [List.length_map] at hve
      cases hve
      rw [List.getElem_map] at e0
      have HY := Lib.hid (show l[k] = n → FindP l n k from fun h => .inr ⟨k, hlt, rfl, h, HP.out⟩)
      have HN := Lib.hid (show l[k] ≠ n → ∀ i (h : i < l.length), i < k + 1 → l[i] ≠ n from fun h i hi hik => by
        rcases Nat.lt_succ_iff_lt_or_eq.1 hik with h1 | rfl
        · exact HP.out i hi h1
        · exact h)
      clear HP HV
      generalize l[k] = y at *
      by_cases hxy : y = n
      · have hbb : (y == n) = true := by simpa using hxy
        have HYY := Lib.hid (HY.out hxy)
        clear HN HY hxy
        go_wp2
        go_ret
        exact ⟨_, rfl, HYY.out, rfl⟩
      · have hbb : (y == n) = false := by simpa using hxy
        have HNN := Lib.hid (HN.out hxy)
        clear HN HY hxy
        go_wp2
        exact ⟨⟨k + 1, by omega, rfl, HNN, trivial⟩, by simp only [intOf]; omega⟩
    · have hdd : decide ((k : Int) < l.length) = false := decide_eq_false (by omega)
      have HA : Hid (FindP l n (-1)) := Lib.hid (.inl ⟨rfl, fun h => by
        obtain ⟨i, hi, e⟩ := List.getElem_of_mem h
        exact HP.out i hi (by omega) e⟩)
      clear HP
      go_wp2
      go_ret
      exact ⟨_, rfl, HA.out, rfl⟩
end Go.Proofs.Ytamgldhnfcikbaa
set_option maxRecDepth 100000
namespace Go.Proofs.Ytamgldhnfcikbaa
open Go.RowKit

def unm : Nat → (Nat → Bool) → Nat
  | 0, _ => 0
  | n + 1, S => unm n S + (if S n then 0 else 1)
theorem unm_congr {S T : Nat → Bool} : ∀ n, (∀ y, y < n → S y = T y) → unm n S = unm n T
  | 0, _ => rfl
  | n + 1, h => by simp only [unm]; rw [unm_congr n (fun y hy => h y (by omega)), h n (by omega)]
theorem unm_mark {S : Nat → Bool} {s : Nat} : ∀ n, s < n → S s = false → unm n (fun y => S y || y == s) + 1 = unm n S
  | 0, h, _ => by omega
  | n + 1, h, hs => by
    simp only [unm]
    by_cases e : s = n
    · subst e
      rw [unm_congr (S := fun y => S y || y == s) (T := S) s (fun y hy => by
        have : ¬ y = s := by omega
        simp [this])]
      simp [hs]
    · have := unm_mark n (by omega) hs
      have e2 : ¬ n = s := fun h => e h.symm
      have e3 : (n == s) = false := by simpa using e2
      simp only [e3, Bool.or_false]
      omega
theorem unm_one {S T : Nat → Bool} {n s : Nat} (hs : s < n) (h0 : S s = false) (h1 : T s = true) (h : ∀ y, y < n → y ≠ s → T y = S y) : unm n T + 1 = unm n S := by
  rw [unm_congr (S := T) (T := fun y => S y || y == s) n fun y hy => ?_]
  · exact unm_mark n hs h0
  · by_cases e : y = s
    · subst e; simp [h1]
    · rw [h y hy e]; simp [e]
inductive Leads (m : List Sta) : Nat → Prop
  | acc {i : Nat} (h : i < m.length) (ha : m[i].acc ≠ 0) : Leads m i
  | step {i : Nat} (h : i < m.length) {a : Arc3} (ha : a ∈ m[i].arcs) (hd : Leads m a.dest.toNat) : Leads m i
def isUp (s : Sta) (T : Nat → Bool) (k : Nat) : Bool := decide (s.acc ≠ 0) || (s.arcs.take k).any fun a => T a.dest.toNat
theorem isUp_zero (s : Sta) (T : Nat → Bool) : isUp s T 0 = decide (s.acc ≠ 0) := by simp [isUp]
theorem isUp_succ (s : Sta) (T : Nat → Bool) {k : Nat} (h : k < s.arcs.length) : isUp s T (k + 1) = (isUp s T k || T s.arcs[k].dest.toNat) := by
  unfold isUp
  rw [List.take_succ_eq_append_getElem h, List.any_append, Bool.or_assoc]
  simp
theorem isUp_leads {m : List Sta} {T : Nat → Bool} {i : Nat} (h : i < m.length) (hd : ∀ a ∈ m[i].arcs, a.dest.toNat < m.length) (hT : ∀ s, s < m.length → T s = true → Leads m s) (hu : isUp m[i] T m[i].arcs.length = true) : Leads m i := by
  unfold isUp at hu
  rw [Bool.or_eq_true, decide_eq_true_eq, List.any_eq_true, List.take_length] at hu
  rcases hu with hu | ⟨a, ha, hu⟩
  · exact .acc h hu
  · exact .step h ha (hT _ (hd a ha) hu)
theorem leads_closed {m : List Sta} {S : Nat → Bool} (h : ∀ j (hj : j < m.length), isUp m[j] S m[j].arcs.length = true → S j = true) {s : Nat} (hs : Leads m s) : S s = true := by
  induction hs with
  | acc hi ha => exact h _ hi (by simp [isUp, ha])
  | step hi ha _ ih =>
    refine h _ hi ?_
    unfold isUp
    rw [Bool.or_eq_true, List.any_eq_true, List.take_length]
    exact .inr ⟨_, ha, ih⟩
theorem acc_bool (ac : Nat) : ((ac : Int) != 0) = decide (ac ≠ 0) := by
  rw [Bool.eq_iff_iff, bne_iff_ne, decide_eq_true_eq]; omega
structure LInv (m : List Sta) (S T : Nat → Bool) (i : Nat) (c : Bool) : Prop where
  sound : ∀ s, s < m.length → T s = true → Leads m s
  le : unm m.length T ≤ unm m.length S
  low : c = false → unm m.length T = unm m.length S ∧ ∀ j (hj : j < m.length), j < i → isUp m[j] T m[j].arcs.length = true → T j = true
  high : c = true → unm m.length T < unm m.length S
theorem LInv.start {m : List Sta} {S : Nat → Bool} (h : ∀ s, s < m.length → S s = true → Leads m s) : LInv m S S 0 false :=
  ⟨h, Nat.le_refl _, fun _ => ⟨rfl, fun j _ hj => by omega⟩, fun h => by cases h⟩
theorem LInv.stay {m : List Sta} {S T : Nat → Bool} {i : Nat} {c : Bool} (h : LInv m S T i c) (hi : i < m.length) (hno : isUp m[i] T m[i].arcs.length = true → T i = true) : LInv m S T (i + 1) c :=
  ⟨h.sound, h.le, fun hc => ⟨(h.low hc).1, fun j hj hji hu => by
    rcases Nat.lt_succ_iff_lt_or_eq.1 hji with h1 | rfl
    · exact (h.low hc).2 j hj h1 hu
    · exact hno hu⟩, h.high⟩
theorem LInv.mark {m : List Sta} {S T : Nat → Bool} {i : Nat} {c : Bool} (h : LInv m S T i c) (hi : i < m.length) (hT : T i = false) (hl : Leads m i) : LInv m S (fun y => T y || y == i) (i + 1) true := by
  have hu := unm_mark (S := T) (s := i) m.length hi hT
  have hle := h.le
  exact ⟨fun s hs hm => by
    rw [Bool.or_eq_true, beq_iff_eq] at hm
    rcases hm with hm | rfl
    · exact h.sound s hs hm
    · exact hl, by omega, fun h => (by cases h), fun _ => by omega⟩
def RLeads (m : List Sta) (N : Nat) (w : World) (e : Ending) (w' : World) : Prop := ∃ S, e = .returned (.slice (some ⟨N, 0, none⟩) m.length m.length) ∧ Hid (Blk w' N m.length S) ∧ Hid (∀ s, s < m.length → (S s = true ↔ Leads m s)) ∧ Hid (Below N w w')
set_option linter.unusedSimpArgs false in
set_option maxHeartbeats 8000000 in
theorem rleads_any (v : Value) (m : List Sta) (w : World) (hv : MachAt w v m) (hn : m.length ≤ 4096) (hl : ∀ s ∈ m, s.arcs.length < 9223372036854775808) (hfit : ∀ s ∈ m, fitsB m.length s.arcs = true) :
    Calls Try.prog 35 #[v] w (RLeads m w.heap.size w) := by
  obtain ⟨N, hN⟩ : ∃ N, w.heap.size = N := ⟨_, rfl⟩
  have HV := Lib.hid (show ∀ wr, Below N w wr → MachAt wr v m from fun wr hb => hv.below (by rw [hN]; exact hb))
  obtain ⟨av, cv, rfl⟩ := hv.len
  have HL := Lib.hid hl
  have HD := Lib.hid (show ∀ s ∈ m, ∀ a ∈ s.arcs, 0 ≤ a.dest ∧ a.dest.toNat < m.length from fun s hs a ha => by
    obtain ⟨i, hi, rfl⟩ := List.getElem_of_mem ha
    have := fits_arc (hfit s hs) hi
    omega)
  clear hv hl hfit
  have hmk := make_bools (c := (m.length : Int)) (n := m.length) rfl (by omega)
  have hmax : max (m.length : Int) 0 = m.length := by omega
  have HB0 : Hid (Below N w (w.alloc (.cells (Places m.length fun _ => false) 4))) := Lib.hid (by rw [← hN]; exact new_one w _)
  have HR0 : Hid (Blk (w.alloc (.cells (Places m.length fun _ => false) 4)) N m.length fun _ => false) := Lib.hid (by rw [← hN]; exact Blk.new w _ _)
  rw [hN]
  go_enter Try.func35, Try.ntmps35
  go_wp2
  clear hmk hmax
  go_loopg [4] (unm m.length (fun _ => false) + 1) (fun gk x wr => ∃ (c : Bool) (S : Nat → Bool), x = .bool c ∧ gk = unm m.length S + (if c then 1 else 0) ∧ Hid (Blk wr N m.length S) ∧ Hid (∀ s, s < m.length → S s = true → Leads m s) ∧ Hid (c = false → ∀ j (hj : j < m.length), isUp m[j] S m[j].arcs.length = true → S j = true) ∧ Hid (Below N w wr))
  case atStart => exact ⟨true, _, rfl, rfl, HR0, Lib.hid (fun s _ h => by cases h), Lib.hid (fun h => by cases h), HB0⟩
  case round =>
    clear HB0 HR0
    obtain ⟨c, S, rfl, hgk, HBL, HSO, HCL, HBW⟩ := hrel
    cases c
    · have HFIN := Lib.hid (show ∀ s, s < m.length → (S s = true ↔ Leads m s) from fun s hs => ⟨HSO.out s hs, fun h => leads_closed (HCL.out rfl) h⟩)
      clear HSO HCL HL HD HV
      go_wp2
      exact bodyPost_ret (v := .slice (some ⟨N, 0, none⟩) m.length m.length) (by simp [results, Try.results35, go_sem, *]) rfl ⟨S, rfl, HBL, HFIN, HBW⟩
    · have HI := Lib.hid (LInv.start HSO.out)
      clear HSO HCL
      go_wp2
      go_loopw [4, 5] (fun x z wr => ∃ (i : Nat) (c : Bool) (T : Nat → Bool), z = .int .i64 i ∧ x = .bool c ∧ i ≤ m.length ∧ Hid (LInv m S T i c) ∧ Hid (Blk wr N m.length T) ∧ Hid (Below N w wr)) (fun _ z _ => m.length - (intOf z).toNat)
      case atStart => exact ⟨0, false, S, rfl, rfl, Nat.zero_le _, HI, HBL, HBW⟩
      case round =>
        clear HI HBL HBW
        obtain ⟨i, c, T, rfl, rfl, hi, HI, HBL, HBW⟩ := hrel
        by_cases hlt : i < m.length
        · have hdd : decide ((i : Int) < m.length) = true := decide_eq_true (by omega)
          have hil : (i : Int) < m.length := by omega
          obtain ⟨b, o, va, rfl, e0, e1, ha⟩ := (HV.out wr HBW.out).at rfl hlt
          obtain ⟨aa, ca, rfl⟩ := ha.len
          have hls := HL.out m[i] (List.getElem_mem hlt)
          have HDI := Lib.hid (HD.out m[i] (List.getElem_mem hlt))
          have HSTAY := Lib.hid (HI.out.stay hlt)
          have HMARK := Lib.hid (show isUp m[i] T m[i].arcs.length = true → T i = false → LInv m S (fun y => T y || y == i) (i + 1) true from fun hu hT => HI.out.mark hlt hT (isUp_leads hlt (fun a ha => (HDI.out a ha).2) HI.out.sound hu))
          have HA := Lib.hid ha
          have HU0 := Lib.hid (isUp_zero m[i] T)
          have HUS := Lib.hid (fun k => isUp_succ m[i] T (k := k))
          have cT := HBL.out.cell hlt
          have fT : wr.frozen? ⟨N, i, none⟩ = false := HBL.out.frozen
          have HNB := Lib.hid (show Blk (wr.setCell ⟨N, i, none⟩ (.bool true)) N m.length (fun y => T y || y == i) from HBL.out.set (by simp) fun j _ hne => by simp [hne])
          have HNW := Lib.hid (HBW.out.setCell (p := ⟨N, i, none⟩) (Nat.le_refl N) (.bool true))
          clear ha HI
          generalize m[i] = st at *
          obtain ⟨ac, l⟩ := st
          simp only at *
          go_wp2
          clear e0
          go_loopw [6, 7] (fun x y wq => ∃ k : Nat, y = .int .i64 k ∧ x = .bool (isUp ⟨ac, l⟩ T k) ∧ k ≤ l.length ∧ wq = wr) (fun _ y _ => l.length - (intOf y).toNat)
          case atStart => exact ⟨0, rfl, by rw [HU0.out, ← acc_bool], Nat.zero_le _, rfl⟩
          case round =>
            obtain ⟨k, rfl, rfl, hk, rfl⟩ := hrel
            by_cases hkl : k < l.length
            · have hdk : decide ((k : Int) < l.length) = true := decide_eq_true (by omega)
              obtain ⟨g, u, rfl, a0, a1, a2⟩ := HA.out.at rfl hkl
              obtain ⟨hd0, hdn⟩ := HDI.out l[k] (List.getElem_mem hkl)
              have HUK := Lib.hid (HUS.out k hkl)
              clear HUS HSTAY HMARK HNB HNW fT cT a0 a1
              obtain ⟨d, hd⟩ : ∃ d : Nat, l[k].dest = d := ⟨l[k].dest.toNat, by omega⟩
              rw [hd] at a2 hdn HUK
              rw [Int.toNat_natCast] at hdn HUK
              have cd := HBL.out.cell hdn
              have hdl : (d : Int) < m.length := by omega
              generalize T d = td at *
              cases hb : isUp ⟨ac, l⟩ T k
              · rw [hb] at HUK
                have HUR := Lib.hid (HUK.out.trans (Bool.false_or td))
                clear HUK hb
                go_wp2
                go_roundw
                case rel => exact ⟨k + 1, num_succ k, by rw [HUR.out], by omega, trivial⟩
                case measure => simp [intOf]; omega
              · rw [hb] at HUK
                have HUR := Lib.hid (HUK.out.trans (Bool.true_or td))
                clear HUK hb
                go_wp2
                go_roundw
                case rel => exact ⟨k + 1, num_succ k, by rw [HUR.out], by omega, trivial⟩
                case measure => simp [intOf]; omega
            · obtain rfl : k = l.length := by omega
              have hdk : decide ((l.length : Int) < l.length) = false := by simp
              cases hb : isUp ⟨ac, l⟩ T l.length
              · have HS := Lib.hid (HSTAY.out (fun h => by rw [hb] at h; cases h))
                clear HSTAY HMARK hb
                go_wp2
                go_roundw
                case rel => exact ⟨i + 1, c, T, num_succ i, rfl, by omega, HS, HBL, HBW⟩
                case measure => simp [intOf]; omega
              · cases hTi : T i
                · have HS := Lib.hid (HMARK.out hb hTi)
                  rw [hTi] at cT
                  clear HSTAY HMARK hb hTi
                  go_wp2
                  go_roundw
                  case rel => exact ⟨i + 1, true, _, num_succ i, rfl, by omega, HS, HNB, HNW⟩
                  case measure => simp [intOf]; omega
                · have HS := Lib.hid (HSTAY.out (fun _ => hTi))
                  rw [hTi] at cT
                  clear HSTAY HMARK hb hTi
                  go_wp2
                  go_roundw
                  case rel => exact ⟨i + 1, c, T, num_succ i, rfl, by omega, HS, HBL, HBW⟩
                  case measure => simp [intOf]; omega
        · obtain rfl : i = m.length := by omega
          have hdd : decide ((m.length : Int) < m.length) = false := by simp
          clear HL HD HV
          go_wp2
          go_roundg (unm m.length T + (if c then 1 else 0))
          case measure =>
            cases c
            · have := (HI.out.low rfl).1
              simp at hgk ⊢; omega
            · have := HI.out.high rfl
              simp at hgk ⊢; omega
          case rel => exact ⟨c, T, rfl, rfl, HBL, Lib.hid HI.out.sound, Lib.hid (fun h j hj => (HI.out.low h).2 j hj hj), HBW⟩
end Go.Proofs.Ytamgldhnfcikbaa
set_option maxRecDepth 100000
namespace Go.Proofs.Ytamgldhnfcikbaa
open Go.RowKit

inductive Come (m : List Sta) : Nat → Prop
  | first (h : 0 < m.length) : Come m 0
  | step {i : Nat} (h : i < m.length) {a : Arc3} (ha : a ∈ m[i].arcs) (hd : Come m i) : Come m a.dest.toNat
theorem come_closed {m : List Sta} {S : Nat → Bool} (h0 : 0 < m.length → S 0 = true) (h : ∀ j (hj : j < m.length), S j = true → ∀ a ∈ m[j].arcs, S a.dest.toNat = true) {s : Nat} (hs : Come m s) : S s = true := by
  induction hs with
  | first hi => exact h0 hi
  | step hi ha _ ih => exact h _ hi ih _ ha
structure CInv (m : List Sta) (S T : Nat → Bool) (i k : Nat) (c : Bool) : Prop where
  sound : ∀ s, s < m.length → T s = true → Come m s
  base : 0 < m.length → T 0 = true
  le : unm m.length T ≤ unm m.length S
  low : c = false → unm m.length T = unm m.length S ∧ (∀ j (hj : j < m.length), j < i → T j = true → ∀ a ∈ m[j].arcs, T a.dest.toNat = true) ∧ ∀ hi : i < m.length, T i = true → ∀ a ∈ m[i].arcs.take k, T a.dest.toNat = true
  high : c = true → unm m.length T < unm m.length S
theorem CInv.start {m : List Sta} {S : Nat → Bool} (h : ∀ s, s < m.length → S s = true → Come m s) (h0 : 0 < m.length → S 0 = true) : CInv m S S 0 0 false :=
  ⟨h, h0, Nat.le_refl _, fun _ => ⟨rfl, fun j _ hj => by omega, fun _ _ a ha => by simp at ha⟩, fun h => by cases h⟩
theorem CInv.skip {m : List Sta} {S T : Nat → Bool} {i k : Nat} {c : Bool} (h : CInv m S T i k c) (hi : i < m.length) (hk : k < m[i].arcs.length) (hT : T m[i].arcs[k].dest.toNat = true) : CInv m S T i (k + 1) c :=
  ⟨h.sound, h.base, h.le, fun hc => ⟨(h.low hc).1, (h.low hc).2.1, fun hi hTi a ha => by
    rw [List.take_succ_eq_append_getElem hk, List.mem_append, List.mem_singleton] at ha
    rcases ha with ha | rfl
    · exact (h.low hc).2.2 hi hTi a ha
    · exact hT⟩, h.high⟩
theorem CInv.mark {m : List Sta} {S T : Nat → Bool} {i k d : Nat} {c : Bool} (h : CInv m S T i k c) (hi : i < m.length) (hk : k < m[i].arcs.length) (hd : m[i].arcs[k].dest.toNat = d) (hdn : d < m.length) (hTi : T i = true) (hT : T d = false) : CInv m S (fun y => T y || y == d) i (k + 1) true := by
  have hu := unm_mark (S := T) (s := d) m.length hdn hT
  have hle := h.le
  exact ⟨fun s hs hm => by
    rw [Bool.or_eq_true, beq_iff_eq] at hm
    rcases hm with hm | rfl
    · exact h.sound s hs hm
    · rw [← hd]; exact .step hi (List.getElem_mem hk) (h.sound i hi hTi), fun h0 => by rw [h.base h0]; rfl, by omega, fun h => (by cases h), fun _ => by omega⟩
theorem CInv.next {m : List Sta} {S T : Nat → Bool} {i k : Nat} {c : Bool} (h : CInv m S T i k c) (hi : i < m.length) (hx : m[i].arcs.length ≤ k ∨ T i = false) : CInv m S T (i + 1) 0 c :=
  ⟨h.sound, h.base, h.le, fun hc => ⟨(h.low hc).1, fun j hj hji hTj a ha => by
    rcases Nat.lt_succ_iff_lt_or_eq.1 hji with h1 | rfl
    · exact (h.low hc).2.1 j hj h1 hTj a ha
    · rcases hx with hx | hx
      · exact (h.low hc).2.2 hj hTj a (by rw [List.take_of_length_le hx]; exact ha)
      · exact absurd (hx.symm.trans hTj) (by decide), fun _ _ a ha => by simp at ha⟩, h.high⟩
def RCome (m : List Sta) (N : Nat) (w : World) (e : Ending) (w' : World) : Prop := ∃ S, e = .returned (.slice (some ⟨N, 0, none⟩) m.length m.length) ∧ Hid (Blk w' N m.length S) ∧ Hid (∀ s, s < m.length → (S s = true ↔ Come m s)) ∧ Hid (Below N w w')
set_option linter.unusedSimpArgs false in
set_option maxHeartbeats 8000000 in
theorem rreached_any (v : Value) (m : List Sta) (w : World) (hv : MachAt w v m) (hn : m.length ≤ 4096) (hl : ∀ s ∈ m, s.arcs.length < 9223372036854775808) (hfit : ∀ s ∈ m, fitsB m.length s.arcs = true) :
    Calls Try.prog 36 #[v] w (RCome m w.heap.size w) := by
  obtain ⟨N, hN⟩ : ∃ N, w.heap.size = N := ⟨_, rfl⟩
  have HV := Lib.hid (show ∀ wr, Below N w wr → MachAt wr v m from fun wr hb => hv.below (by rw [hN]; exact hb))
  obtain ⟨av, cv, rfl⟩ := hv.len
  have HL := Lib.hid hl
  have HD := Lib.hid (show ∀ s ∈ m, ∀ a ∈ s.arcs, 0 ≤ a.dest ∧ a.dest.toNat < m.length from fun s hs a ha => by
    obtain ⟨i, hi, rfl⟩ := List.getElem_of_mem ha
    have := fits_arc (hfit s hs) hi
    omega)
  clear hv hl hfit
  have hmk := make_bools (c := (m.length : Int)) (n := m.length) rfl (by omega)
  have hmax : max (m.length : Int) 0 = m.length := by omega
  have HB0 : Hid (Below N w (w.alloc (.cells (Places m.length fun _ => false) 4))) := Lib.hid (by rw [← hN]; exact new_one w _)
  have HR0 : Hid (Blk (w.alloc (.cells (Places m.length fun _ => false) 4)) N m.length fun _ => false) := Lib.hid (by rw [← hN]; exact Blk.new w _ _)
  rw [hN]
  go_enter Try.func36, Try.ntmps36
  go_upto_if 13 with (fail)
  clear hmk hmax
  generalize w.alloc (.cells (Places m.length fun _ => false) 4) = w1 at *
  go_cut [3] from 11 (fun s3 wx => s3 = .slice (some ⟨N, 0, none⟩) m.length m.length ∧ Hid (Blk wx N m.length fun y => y == 0) ∧ Hid (Below N w wx))
  case first =>
    by_cases h0 : 0 < m.length
    · have hd0 : decide ((m.length : Int) > 0) = true := decide_eq_true (by omega)
      have hd1 : decide ((0 : Int) < m.length) = true := decide_eq_true (by omega)
      have hil : (0 : Int) < m.length := by omega
      have c0 := HR0.out.cell h0
      have f0 : w1.frozen? ⟨N, 0, none⟩ = false := HR0.out.frozen
      have HNB := Lib.hid (show Blk (w1.setCell ⟨N, 0, none⟩ (.bool true)) N m.length (fun y => y == 0) from HR0.out.set (by simp) fun j _ hne => by simp [hne])
      have HNW := Lib.hid (HB0.out.setCell (p := ⟨N, 0, none⟩) (Nat.le_refl N) (.bool true))
      go_wp2
      go_meet
      case rel => exact ⟨rfl, HNB, HNW⟩
    · have hd0 : decide ((m.length : Int) > 0) = false := decide_eq_false (by omega)
      have hd1 : decide ((0 : Int) < m.length) = false := decide_eq_false (by omega)
      have HNB := Lib.hid (HR0.out.congr (g := fun y => y == 0) fun i hi => by omega)
      go_wp2
      go_meet
      case rel => exact ⟨rfl, HNB, HB0⟩
  case rest =>
    obtain ⟨rfl, HBL0, HBW0⟩ := hcut
    clear HB0 HR0
    rename_i K1 hK1
    refine hK1 _ _ ?_
    have HS0 := Lib.hid (show ∀ s, s < m.length → (s == 0) = true → Come m s from fun s hs h => by
      obtain rfl : s = 0 := by simpa using h
      exact .first hs)
    have HZ0 := Lib.hid (show 0 < m.length → ((0 : Nat) == 0) = true from fun _ => rfl)
    go_wp2
    go_loopg [4] (unm m.length (fun y => y == 0) + 1) (fun gk x wr => ∃ (c : Bool) (S : Nat → Bool), x = .bool c ∧ gk = unm m.length S + (if c then 1 else 0) ∧ Hid (Blk wr N m.length S) ∧ Hid (∀ s, s < m.length → S s = true → Come m s) ∧ Hid (0 < m.length → S 0 = true) ∧ Hid (c = false → ∀ j (hj : j < m.length), S j = true → ∀ a ∈ m[j].arcs, S a.dest.toNat = true) ∧ Hid (Below N w wr))
    case atStart => exact ⟨true, _, rfl, rfl, HBL0, HS0, HZ0, Lib.hid (fun h => by cases h), HBW0⟩
    case round =>
      clear HBL0 HBW0 HS0 HZ0
      obtain ⟨c, S, rfl, hgk, HBL, HSO, HZE, HCL, HBW⟩ := hrel
      cases c
      · have HFIN := Lib.hid (show ∀ s, s < m.length → (S s = true ↔ Come m s) from fun s hs => ⟨HSO.out s hs, fun h => come_closed HZE.out (HCL.out rfl) h⟩)
        clear HSO HZE HCL HL HD HV
        go_wp2
        exact bodyPost_ret (v := .slice (some ⟨N, 0, none⟩) m.length m.length) (by simp [results, Try.results36, go_sem, *]) rfl ⟨S, rfl, HBL, HFIN, HBW⟩
      · have HI := Lib.hid (CInv.start HSO.out HZE.out)
        clear HSO HZE HCL
        go_wp2
        go_loopw [4, 5] (fun x z wr => ∃ (i : Nat) (c : Bool) (T : Nat → Bool), z = .int .i64 i ∧ x = .bool c ∧ i ≤ m.length ∧ Hid (CInv m S T i 0 c) ∧ Hid (Blk wr N m.length T) ∧ Hid (Below N w wr)) (fun _ z _ => m.length - (intOf z).toNat)
        case atStart => exact ⟨0, false, S, rfl, rfl, Nat.zero_le _, HI, HBL, HBW⟩
        case round =>
          clear HI HBL HBW
          obtain ⟨i, c, T, rfl, rfl, hi, HI, HBL, HBW⟩ := hrel
          by_cases hlt : i < m.length
          · have hdd : decide ((i : Int) < m.length) = true := decide_eq_true (by omega)
            have hil : (i : Int) < m.length := by omega
            obtain ⟨b, o, va, rfl, e0, e1, ha⟩ := (HV.out wr HBW.out).at rfl hlt
            obtain ⟨ll, hll⟩ : ∃ ll, m[i].arcs.length = ll := ⟨_, rfl⟩
            have hls := HL.out m[i] (List.getElem_mem hlt)
            rw [hll] at hls
            have HDI := Lib.hid (HD.out m[i] (List.getElem_mem hlt))
            have HLL := Lib.hid hll
            clear ha e0 e1 va hll
            go_wp2
            go_loopw [4, 6] (fun x y wr => ∃ (k : Nat) (c : Bool) (T : Nat → Bool), y = .int .i64 k ∧ x = .bool c ∧ k ≤ ll ∧ Hid (CInv m S T i k c) ∧ Hid (Blk wr N m.length T) ∧ Hid (Below N w wr)) (fun _ y _ => ll - (intOf y).toNat)
            case atStart => exact ⟨0, c, T, rfl, rfl, Nat.zero_le _, HI, HBL, HBW⟩
            case round =>
              clear HI HBL HBW
              obtain ⟨k, c, T, rfl, rfl, hk, HI, HBL, HBW⟩ := hrel
              obtain ⟨b', o', va, e, e0, e1, ha⟩ := (HV.out wr HBW.out).at rfl hlt
              cases e
              obtain ⟨aa, ca, rfl⟩ := ha.len
              rw [HLL.out] at e1
              have cT := HBL.out.cell hlt
              by_cases hkl : k < ll
              · have hdk : decide ((k : Int) < ll) = true := decide_eq_true (by omega)
                have hka : k < m[i].arcs.length := by rw [HLL.out]; exact hkl
                cases hTi : T i
                · have HNX := Lib.hid (HI.out.next hlt (.inr hTi))
                  rw [hTi] at cT
                  clear HI e0 ha hTi
                  go_wp2
                  go_roundw
                  case rel => exact ⟨i + 1, c, T, num_succ i, rfl, by omega, HNX, HBL, HBW⟩
                  case measure => simp [intOf]; omega
                · rw [hTi] at cT
                  obtain ⟨g, u, rfl, a0, a1, a2⟩ := ha.at (by rw [HLL.out]) hka
                  obtain ⟨hd0, hdn⟩ := HDI.out m[i].arcs[k] (List.getElem_mem hka)
                  have HSK := Lib.hid (HI.out.skip hlt hka)
                  have HMK := Lib.hid (fun d => HI.out.mark (d := d) hlt hka)
                  obtain ⟨d, hd⟩ : ∃ d : Nat, m[i].arcs[k].dest = d := ⟨m[i].arcs[k].dest.toNat, by omega⟩
                  rw [hd] at a2 hdn HSK HMK
                  rw [Int.toNat_natCast] at hdn HSK HMK
                  have cd := HBL.out.cell hdn
                  have fd : wr.frozen? ⟨N, d, none⟩ = false := HBL.out.frozen
                  have hdl : (d : Int) < m.length := by omega
                  have HNB := Lib.hid (show Blk (wr.setCell ⟨N, d, none⟩ (.bool true)) N m.length (fun y => T y || y == d) from HBL.out.set (by simp) fun j _ hne => by simp [hne])
                  have HNW := Lib.hid (HBW.out.setCell (p := ⟨N, d, none⟩) (Nat.le_refl N) (.bool true))
                  cases hTd : T d
                  · have HM := Lib.hid (HMK.out d rfl hdn hTi hTd)
                    rw [hTd] at cd
                    clear HSK HMK HI e0 ha a0 a1 hd hTd hTi
                    go_wp2
                    go_roundw
                    case rel => exact ⟨k + 1, true, _, num_succ k, rfl, by omega, HM, HNB, HNW⟩
                    case measure => simp [intOf]; omega
                  · have HM := Lib.hid (HSK.out hTd)
                    rw [hTd] at cd
                    clear HSK HMK HI e0 ha a0 a1 hd hTd hTi HNB HNW fd
                    go_wp2
                    go_roundw
                    case rel => exact ⟨k + 1, c, T, num_succ k, rfl, by omega, HM, HBL, HBW⟩
                    case measure => simp [intOf]; omega
              · obtain rfl : k = ll := by omega
                have hdk : decide ((k : Int) < k) = false := by simp
                have HNX := Lib.hid (HI.out.next hlt (.inl (by rw [HLL.out]; exact Nat.le_refl _)))
                clear HI e0 ha
                go_wp2
                go_roundw
                case rel => exact ⟨i + 1, c, T, num_succ i, rfl, by omega, HNX, HBL, HBW⟩
                case measure => simp [intOf]; omega
          · obtain rfl : i = m.length := by omega
            have hdd : decide ((m.length : Int) < m.length) = false := by simp
            clear HL HD HV
            go_wp2
            go_roundg (unm m.length T + (if c then 1 else 0))
            case measure =>
              cases c
              · have := (HI.out.low rfl).1
                simp at hgk ⊢; omega
              · have := HI.out.high rfl
                simp at hgk ⊢; omega
            case rel => exact ⟨c, T, rfl, rfl, HBL, Lib.hid HI.out.sound, Lib.hid HI.out.base, Lib.hid (fun h j hj => (HI.out.low h).2.1 j hj hj), HBW⟩
end Go.Proofs.Ytamgldhnfcikbaa
set_option maxRecDepth 100000
namespace Go.Proofs.Ytamgldhnfcikbaa
open Go.RowKit

theorem check_fits {m : List Sta} (h : checkB m = true) : m.length ≤ 4096 ∧ ∀ s ∈ m, fitsB m.length s.arcs = true := by
  unfold checkB at h
  rw [Bool.and_eq_true, decide_eq_true_eq, List.all_eq_true] at h
  exact h
theorem soundS_sub {m : List Sta} {P : Sta → Prop} (h : ∀ s ∈ m, P s) : ∀ s ∈ soundS m, P s := by
  unfold soundS
  split
  · exact h
  · intro s hs; cases hs
def RUse (m : List Sta) (N : Nat) (w : World) (e : Ending) (w' : World) : Prop := ∃ b S, e = .returned (.slice (some ⟨b, 0, none⟩) m.length m.length) ∧ N ≤ b ∧ Hid (Blk w' b m.length S) ∧ Hid (∀ s, s < m.length → (S s = true ↔ Leads m s ∧ Come m s)) ∧ Hid (Below N w w')
set_option linter.unusedSimpArgs false in
set_option maxHeartbeats 8000000 in
theorem ruseful_any (v : Value) (m : List Sta) (w : World) (hv : MachAt w v m) (hl : ∀ s ∈ m, s.arcs.length < 9223372036854775808) (hm : Mays m) :
    Calls Try.prog 12 #[v] w (RUse (soundS m) w.heap.size w) := by
  have HR := Lib.hid (show Calls Try.prog 24 #[v] w fun e w' => ∃ u, e = .returned u ∧ Hid (MachAt w u (soundS m)) ∧ Hid (Below w.heap.size w w') from right_any v m w hv hl hm)
  obtain ⟨hn, hfit⟩ := check_fits (soundS_ok m)
  have hl2 := soundS_sub hl
  have HLE := Lib.hid (fun (u : Value) (w5 : World) (hu : MachAt w5 u (soundS m)) => rleads_any u (soundS m) w5 hu hn hl2 hfit)
  have HRE := Lib.hid (fun (u : Value) (w5 : World) (hu : MachAt w5 u (soundS m)) => rreached_any u (soundS m) w5 hu hn hl2 hfit)
  clear hv hl hm hfit hl2
  generalize soundS m = n at *
  obtain ⟨N, hN⟩ : ∃ N, w.heap.size = N := ⟨_, rfl⟩
  rw [hN]
  go_enter Try.func12, Try.ntmps12
  go_wp2_with (first
    | (go_at_call 24; refine HR.out.mono ?_; rintro e w5 ⟨u, rfl, hu, hb⟩; have HU := Lib.hid (hu.out.below hb.out); have HB5 := Lib.hid hb.out; clear hu hb)
    | (go_at_call 35; refine (HLE.out _ _ HU.out).mono ?_; rintro e w6 ⟨S, rfl, hs, hf, hb⟩; have HU6 := Lib.hid (HU.out.below hb.out); have HB6 := Lib.hid (HB5.out.trans (hb.out.mono HB5.out.size)); have HS6 := Lib.hid hs.out; have HF6 := Lib.hid hf.out; have hN6 := HB5.out.size; clear hs hf hb HU HLE)
    | (go_at_call 36; refine (HRE.out _ _ HU6.out).mono ?_; rintro e w7 ⟨T, rfl, hs, hf, hb⟩; have HB7 := Lib.hid (HB6.out.trans (hb.out.mono HB6.out.size)); have HS7 := Lib.hid (HS6.out.below hb.out); have hlt6 := HS6.out.lt; have HT7 := Lib.hid hs.out; have HF7 := Lib.hid hf.out; clear hs hf hb HU6 HRE HS6))
  have hN5 : N ≤ w5.heap.size := by have := HB5.out.size; omega
  have HF := Lib.hid (show ∀ s, s < n.length → ((S s && T s) = true ↔ Leads n s ∧ Come n s) from fun s hs => by rw [Bool.and_eq_true, HF6.out s hs, HF7.out s hs])
  rw [hN] at HB7
  clear HB5 HB6 HF6 HF7 hN6 HR
  generalize w5.heap.size = A at *
  generalize w6.heap.size = B at *
  have hAB : A ≠ B := by omega
  have hBA : B ≠ A := by omega
  have HS0 := Lib.hid (HS7.out.congr (g := fun y => if y < 0 then S y && T y else S y) fun i _ => by rw [if_neg (by omega)])
  go_loopw [5] (fun z wr => ∃ i : Nat, z = .int .i64 i ∧ i ≤ n.length ∧ Hid (Blk wr A n.length (fun y => if y < i then S y && T y else S y)) ∧ Hid (Blk wr B n.length T) ∧ Hid (Below N w wr)) (fun z _ => n.length - (intOf z).toNat)
  case atStart => exact ⟨0, rfl, Nat.zero_le _, HS0, HT7, HB7⟩
  case round =>
    clear HS0 HT7 HB7 HS7
    obtain ⟨i, rfl, hi, HS, HT, HB⟩ := hrel
    by_cases hlt : i < n.length
    · have hdd : decide ((i : Int) < n.length) = true := decide_eq_true (by omega)
      have hil : (i : Int) < n.length := by omega
      have cS := HS.out.cell hlt
      rw [if_neg (Nat.lt_irrefl i)] at cS
      have cT := HT.out.cell hlt
      have fS : wr.frozen? ⟨A, i, none⟩ = false := HS.out.frozen
      have HNS := Lib.hid (HS.out.set (k := i) (g := fun y => if y < i + 1 then S y && T y else S y) (v := S i && T i) (by simp) fun j _ hne => by
        by_cases h : j < i
        · rw [if_pos h, if_pos (by omega)]
        · rw [if_neg h, if_neg (by omega)])
      have HNT := fun v => Lib.hid (HT.out.other (a := ⟨A, i, none⟩) hBA v)
      have HNB := fun v => Lib.hid (HB.out.setCell (p := ⟨A, i, none⟩) hN5 v)
      generalize T i = ti at *
      cases hSi : S i
      · rw [hSi] at cS HNS
        rw [Bool.false_and] at HNS
        have HNT := HNT (.bool false)
        have HNB := HNB (.bool false)
        clear hSi
        go_wp2
        go_roundw
        case rel => exact ⟨i + 1, num_succ i, by omega, HNS, HNT, HNB⟩
        case measure => simp [intOf]; omega
      · rw [hSi] at cS HNS
        rw [Bool.true_and] at HNS
        have HNT := HNT (.bool ti)
        have HNB := HNB (.bool ti)
        clear hSi
        go_wp2
        go_roundw
        case rel => exact ⟨i + 1, num_succ i, by omega, HNS, HNT, HNB⟩
        case measure => simp [intOf]; omega
    · obtain rfl : i = n.length := by omega
      have hdd : decide ((n.length : Int) < n.length) = false := by simp
      have HSE := Lib.hid (HS.out.congr (g := fun y => S y && T y) fun i hi => by rw [if_pos hi])
      go_wp2
      exact bodyPost_ret (v := .slice (some ⟨A, 0, none⟩) n.length n.length) (by simp [results, Try.results12, go_sem, *]) rfl ⟨A, _, rfl, hN5, HSE, HF, HB⟩
end Go.Proofs.Ytamgldhnfcikbaa
set_option maxRecDepth 100000
namespace Go.Proofs.Ytamgldhnfcikbaa
open List (getElem_toArray getElem_cons_succ getElem_cons_zero setIfInBounds_toArray set_cons_zero set_cons_succ)
open Go.RowKit

set_option linter.unusedSimpArgs false in
set_option maxHeartbeats 4000000 in
theorem rbools_any (v u : Value) (m n : List Bool) (w : World) (hv : RdV w v (m.map Value.bool)) (hu : RdV w u (n.map Value.bool)) (hm : m.length < 9223372036854775808) :
    Calls Try.prog 10 #[v, u] w fun e w' => e = .returned (.bool (decide (m = n))) ∧ Below w.heap.size w w' := by
  obtain ⟨av, cv, hve⟩ := hv.len
  obtain ⟨au, cu, hue⟩ := hu.len
  rw [List.length_map] at hve hue
  subst hve hue
  have mixed : Try.prog.follows .mixedOrders = true := by kernel_rfl
  have HV := Lib.hid hv
  have HU := Lib.hid hu
  clear hv hu
  by_cases hmn : m.length = n.length
  · have HMN := Lib.hid hmn
    rw [← hmn]
    clear hmn
    go_enter Try.func10, Try.ntmps10
    go_wp2
    go_loopw [5] (fun z wr => ∃ k : Nat, z = .int .i64 k ∧ k ≤ m.length ∧ Hid (m.take k = n.take k) ∧ Hid (Below w.heap.size w wr)) (fun z _ => m.length - (intOf z).toNat)
    case atStart => exact ⟨0, rfl, Nat.zero_le _, Lib.hid rfl, Lib.hid (Below.refl _ _)⟩
    case round =>
      obtain ⟨k, rfl, hk, HT, HB⟩ := hrel
      by_cases hlt : k < m.length
      · have hdd : decide ((k : Int) < m.length) = true := decide_eq_true (by omega)
        have hkl : (k : Int) < m.length := by omega
        have hkn : k < n.length := by have := HMN.out; omega
        have hbd : Below w.heap.size w wr.drew := HB.out.trans ((Below.refl wr.heap.size wr).drew.mono HB.out.size)
        obtain ⟨b1, o1, d1, e1, c1⟩ := HV.out.at (show k < (m.map Value.bool).length by simpa using hlt)
        obtain ⟨b2, o2, d2, e2, c2⟩ := HU.out.at (show k < (n.map Value.bool).length by simpa using hkn)
        rw [List.length_map] at e1 e2
        cases e1
        have e2 : au = some ⟨b2, o2, none⟩ := by cases e2; rfl
        subst e2
        rw [List.getElem_map] at c1 c2
        replace c1 := cell_below hbd c1
        replace c2 := cell_below hbd c2
        have HNE := Lib.hid (show m[k] ≠ n[k] → decide (m = n) = false from fun h => decide_eq_false fun e => h (by subst e; rfl))
        have HEQ := Lib.hid (show m[k] = n[k] → m.take (k + 1) = n.take (k + 1) from fun h => by rw [List.take_succ_eq_append_getElem hlt, List.take_succ_eq_append_getElem hkn, HT.out, h])
        have HBD := Lib.hid hbd
        clear HT hbd HV HU
        generalize m[k] = x at *
        generalize n[k] = y at *
        clear hkn
        by_cases hxy : x = y
        · have HEQ2 := Lib.hid (HEQ.out hxy)
          subst hxy
          have hq : (x != x) = false := by simp
          have hq2 : (x == x) = true := by simp
          clear HEQ HNE
          go_wp2
          refine region_goes 109 9 rfl (fun W => W.cell? ⟨b1, o1 + k, none⟩ = some (.bool x) ∧ W.cell? ⟨b2, o2 + k, none⟩ = some (.bool x)) mixed ⟨c1, c2⟩ (fun hHeld => ?_)
          refine goes_take0 (i := 0) (v := ?hv1) rfl (by kernel_rfl) (by kernel_rfl) (by kernel_rfl) rfl (fun _ _ _ h => h) (Or.inl ⟨by rfl, ?hy1⟩) (by assumption) ?hr1
          case hy1 => (intro W9 hW9; obtain ⟨k0, k1⟩ := hW9; first | (go_simp; done) | (go_simp; with_reducible rfl))
          simp only [Act.put, getElem_toArray, getElem_cons_succ, getElem_cons_zero, setIfInBounds_toArray, set_cons_zero, set_cons_succ]
          refine goes_take0 (i := 1) (v := ?hv2) rfl (by kernel_rfl) (by kernel_rfl) (by kernel_rfl) rfl (fun _ _ _ h => h) (Or.inl ⟨by rfl, ?hy2⟩) (by assumption) ?hr2
          case hy2 => (intro W9 hW9; obtain ⟨k0, k1⟩ := hW9; first | (go_simp; done) | (go_simp; with_reducible rfl))
          simp only [Act.put, getElem_toArray, getElem_cons_succ, getElem_cons_zero, setIfInBounds_toArray, set_cons_zero, set_cons_succ]
          refine goes_take0 (i := 2) (v := ?hv3) rfl (by kernel_rfl) (by kernel_rfl) (by kernel_rfl) rfl (fun _ _ _ h => h) (Or.inl ⟨by rfl, ?hy3⟩) (by assumption) ?hr3
          case hy3 => (intro W9 hW9; obtain ⟨k0, k1⟩ := hW9; first | (go_simp; done) | (go_simp; with_reducible rfl))
          simp only [Act.put, getElem_toArray, getElem_cons_succ, getElem_cons_zero, setIfInBounds_toArray, set_cons_zero, set_cons_succ]
          refine goes_take0 (i := 3) (v := ?hv4) rfl (by kernel_rfl) (by kernel_rfl) (by kernel_rfl) rfl (fun _ _ _ h => h) (Or.inl ⟨by rfl, ?hy4⟩) (by assumption) ?hr4
          case hy4 => (intro W9 hW9; obtain ⟨k0, k1⟩ := hW9; first | (go_simp; done) | (go_simp; with_reducible rfl))
          simp only [Act.put, getElem_toArray, getElem_cons_succ, getElem_cons_zero, setIfInBounds_toArray, set_cons_zero, set_cons_succ]
          refine goes_take0 (i := 4) (v := ?hv5) rfl (by kernel_rfl) (by kernel_rfl) (by kernel_rfl) rfl (fun _ _ _ h => h) (Or.inl ⟨by rfl, ?hy5⟩) (by assumption) ?hr5
          case hy5 => (intro W9 hW9; obtain ⟨k0, k1⟩ := hW9; first | (go_simp; done) | (go_simp; with_reducible rfl))
          simp only [Act.put, getElem_toArray, getElem_cons_succ, getElem_cons_zero, setIfInBounds_toArray, set_cons_zero, set_cons_succ]
          refine goes_take0 (i := 5) (v := ?hv6) rfl (by kernel_rfl) (by kernel_rfl) (by kernel_rfl) rfl (fun _ _ _ h => h) (Or.inl ⟨by rfl, ?hy6⟩) (by assumption) ?hr6
          case hy6 => (intro W9 hW9; obtain ⟨k0, k1⟩ := hW9; first | (go_simp; done) | (go_simp; with_reducible rfl))
          simp only [Act.put, getElem_toArray, getElem_cons_succ, getElem_cons_zero, setIfInBounds_toArray, set_cons_zero, set_cons_succ]
          refine goes_take0 (i := 6) (v := ?hv7) rfl (by kernel_rfl) (by kernel_rfl) (by kernel_rfl) rfl (fun _ _ _ h => h) (Or.inl ⟨by rfl, ?hy7⟩) (by assumption) ?hr7
          case hy7 => (intro W9 hW9; obtain ⟨k0, k1⟩ := hW9; first | (go_simp; done) | (go_simp; with_reducible rfl))
          simp only [Act.put, getElem_toArray, getElem_cons_succ, getElem_cons_zero, setIfInBounds_toArray, set_cons_zero, set_cons_succ]
          refine goes_take0 (i := 7) (v := ?hv8) rfl (by kernel_rfl) (by kernel_rfl) (by kernel_rfl) rfl (fun _ _ _ h => h) (Or.inl ⟨by rfl, ?hy8⟩) (by assumption) ?hr8
          case hy8 => (intro W9 hW9; obtain ⟨k0, k1⟩ := hW9; first | (go_simp; done) | (go_simp; with_reducible rfl))
          simp only [Act.put, getElem_toArray, getElem_cons_succ, getElem_cons_zero, setIfInBounds_toArray, set_cons_zero, set_cons_succ]
          refine goes_take0 (i := 8) (v := (.bool false)) rfl (by kernel_rfl) (by kernel_rfl) (by kernel_rfl) rfl (fun _ _ _ h => h) (Or.inl ⟨by rfl, ?hy9⟩) (by assumption) ?hr9
          case hy9 => (intro W9 hW9; obtain ⟨k0, k1⟩ := hW9; first | (go_simp; done) | (go_simp; with_reducible rfl))
          simp only [Act.put, getElem_toArray, getElem_cons_succ, getElem_cons_zero, setIfInBounds_toArray, set_cons_zero, set_cons_succ]
          refine goes_done (by kernel_rfl) ?_ _
          go_wp2
          go_roundw
          case rel => exact ⟨k + 1, num_succ k, by omega, HEQ2, HBD⟩
          case measure => simp [intOf]; omega
        · have HR := Lib.hid (HNE.out hxy)
          have hq : (x != y) = true := by simpa using hxy
          have hq2 : (x == y) = false := by simpa using hxy
          clear HEQ HNE hxy
          go_wp2
          refine region_goes 109 9 rfl (fun W => W.cell? ⟨b1, o1 + k, none⟩ = some (.bool x) ∧ W.cell? ⟨b2, o2 + k, none⟩ = some (.bool y)) mixed ⟨c1, c2⟩ (fun hHeld => ?_)
          refine goes_take0 (i := 0) (v := ?hv10) rfl (by kernel_rfl) (by kernel_rfl) (by kernel_rfl) rfl (fun _ _ _ h => h) (Or.inl ⟨by rfl, ?hy10⟩) (by assumption) ?hr10
          case hy10 => (intro W9 hW9; obtain ⟨k0, k1⟩ := hW9; first | (go_simp; done) | (go_simp; with_reducible rfl))
          simp only [Act.put, getElem_toArray, getElem_cons_succ, getElem_cons_zero, setIfInBounds_toArray, set_cons_zero, set_cons_succ]
          refine goes_take0 (i := 1) (v := ?hv11) rfl (by kernel_rfl) (by kernel_rfl) (by kernel_rfl) rfl (fun _ _ _ h => h) (Or.inl ⟨by rfl, ?hy11⟩) (by assumption) ?hr11
          case hy11 => (intro W9 hW9; obtain ⟨k0, k1⟩ := hW9; first | (go_simp; done) | (go_simp; with_reducible rfl))
          simp only [Act.put, getElem_toArray, getElem_cons_succ, getElem_cons_zero, setIfInBounds_toArray, set_cons_zero, set_cons_succ]
          refine goes_take0 (i := 2) (v := ?hv12) rfl (by kernel_rfl) (by kernel_rfl) (by kernel_rfl) rfl (fun _ _ _ h => h) (Or.inl ⟨by rfl, ?hy12⟩) (by assumption) ?hr12
          case hy12 => (intro W9 hW9; obtain ⟨k0, k1⟩ := hW9; first | (go_simp; done) | (go_simp; with_reducible rfl))
          simp only [Act.put, getElem_toArray, getElem_cons_succ, getElem_cons_zero, setIfInBounds_toArray, set_cons_zero, set_cons_succ]
          refine goes_take0 (i := 3) (v := ?hv13) rfl (by kernel_rfl) (by kernel_rfl) (by kernel_rfl) rfl (fun _ _ _ h => h) (Or.inl ⟨by rfl, ?hy13⟩) (by assumption) ?hr13
          case hy13 => (intro W9 hW9; obtain ⟨k0, k1⟩ := hW9; first | (go_simp; done) | (go_simp; with_reducible rfl))
          simp only [Act.put, getElem_toArray, getElem_cons_succ, getElem_cons_zero, setIfInBounds_toArray, set_cons_zero, set_cons_succ]
          refine goes_take0 (i := 4) (v := ?hv14) rfl (by kernel_rfl) (by kernel_rfl) (by kernel_rfl) rfl (fun _ _ _ h => h) (Or.inl ⟨by rfl, ?hy14⟩) (by assumption) ?hr14
          case hy14 => (intro W9 hW9; obtain ⟨k0, k1⟩ := hW9; first | (go_simp; done) | (go_simp; with_reducible rfl))
          simp only [Act.put, getElem_toArray, getElem_cons_succ, getElem_cons_zero, setIfInBounds_toArray, set_cons_zero, set_cons_succ]
          refine goes_take0 (i := 5) (v := ?hv15) rfl (by kernel_rfl) (by kernel_rfl) (by kernel_rfl) rfl (fun _ _ _ h => h) (Or.inl ⟨by rfl, ?hy15⟩) (by assumption) ?hr15
          case hy15 => (intro W9 hW9; obtain ⟨k0, k1⟩ := hW9; first | (go_simp; done) | (go_simp; with_reducible rfl))
          simp only [Act.put, getElem_toArray, getElem_cons_succ, getElem_cons_zero, setIfInBounds_toArray, set_cons_zero, set_cons_succ]
          refine goes_take0 (i := 6) (v := ?hv16) rfl (by kernel_rfl) (by kernel_rfl) (by kernel_rfl) rfl (fun _ _ _ h => h) (Or.inl ⟨by rfl, ?hy16⟩) (by assumption) ?hr16
          case hy16 => (intro W9 hW9; obtain ⟨k0, k1⟩ := hW9; first | (go_simp; done) | (go_simp; with_reducible rfl))
          simp only [Act.put, getElem_toArray, getElem_cons_succ, getElem_cons_zero, setIfInBounds_toArray, set_cons_zero, set_cons_succ]
          refine goes_take0 (i := 7) (v := ?hv17) rfl (by kernel_rfl) (by kernel_rfl) (by kernel_rfl) rfl (fun _ _ _ h => h) (Or.inl ⟨by rfl, ?hy17⟩) (by assumption) ?hr17
          case hy17 => (intro W9 hW9; obtain ⟨k0, k1⟩ := hW9; first | (go_simp; done) | (go_simp; with_reducible rfl))
          simp only [Act.put, getElem_toArray, getElem_cons_succ, getElem_cons_zero, setIfInBounds_toArray, set_cons_zero, set_cons_succ]
          refine goes_take0 (i := 8) (v := (.bool true)) rfl (by kernel_rfl) (by kernel_rfl) (by kernel_rfl) rfl (fun _ _ _ h => h) (Or.inl ⟨by rfl, ?hy18⟩) (by assumption) ?hr18
          case hy18 => (intro W9 hW9; obtain ⟨k0, k1⟩ := hW9; first | (go_simp; done) | (go_simp; with_reducible rfl))
          simp only [Act.put, getElem_toArray, getElem_cons_succ, getElem_cons_zero, setIfInBounds_toArray, set_cons_zero, set_cons_succ]
          refine goes_done (by kernel_rfl) ?_ _
          go_wp2
          go_ret
          exact ⟨by rw [HR.out]; rfl, HBD.out⟩
      · obtain rfl : k = m.length := by omega
        have hdd : decide ((m.length : Int) < m.length) = false := by simp
        have HR := Lib.hid (show decide (m = n) = true from decide_eq_true (by
          have := HT.out
          rw [List.take_length, HMN.out, List.take_length] at this
          exact this))
        go_wp2
        go_ret
        exact ⟨by rw [HR.out]; rfl, HB.out⟩
  · have h1 : ((m.length : Int) != n.length) = true := by rw [bne_iff_ne]; omega
    have h2 : (m.length != n.length) = true := by rw [bne_iff_ne]; omega
    have HR := Lib.hid (show decide (m = n) = false from decide_eq_false fun e => hmn (by rw [e]))
    go_enter Try.func10, Try.ntmps10
    go_wp2
    go_ret
    exact ⟨by rw [HR.out]; rfl, Below.refl _ _⟩
end Go.Proofs.Ytamgldhnfcikbaa
set_option maxRecDepth 100000
namespace Go.Proofs.Ytamgldhnfcikbaa
open List (getElem_toArray getElem_cons_succ getElem_cons_zero setIfInBounds_toArray set_cons_zero set_cons_succ)
open Go.RowKit

def UF (r : Nat → Nat) (n : Nat) (A R : Nat → Nat) : Prop := ∀ i, i < n → A i < n ∧ R i < n ∧ R (A i) = R i ∧ A (R i) = R i ∧ (A i ≠ i → r (A i) < r i) ∧ (A i = i → R i = i)
theorem UF.halve {r : Nat → Nat} {n x : Nat} {A R : Nat → Nat} (h : UF r n A R) (hx : x < n) : UF r n (fun i => if i = x then A (A x) else A i) R := by
  intro i hi
  obtain ⟨h1, h2, h3, h4, h5, h6⟩ := h i hi
  have hR : (if R i = x then A (A x) else A (R i)) = R i := by
    by_cases e : R i = x
    · have hxx : A x = x := by rw [← e]; exact h4
      rw [if_pos e, hxx, hxx, e]
    · rw [if_neg e]; exact h4
  by_cases e : i = x
  · subst e
    obtain ⟨g1, g2, g3, g4, g5, g6⟩ := h (A i) h1
    simp only [if_true]
    refine ⟨g1, h2, g3.trans h3, hR, fun hne => ?_, fun he => ?_⟩
    · by_cases q : A i = i
      · rw [q, q] at hne; exact absurd rfl hne
      · have := h5 q
        by_cases q2 : A (A i) = A i
        · rw [q2]; exact this
        · have := g5 q2; omega
    · by_cases q : A i = i
      · exact h6 q
      · have := h5 q
        by_cases q2 : A (A i) = A i
        · rw [q2] at he; exact absurd he q
        · have := g5 q2; rw [he] at this; omega
  · simp only [if_neg e]
    exact ⟨h1, h2, h3, hR, h5, h6⟩
def natsV (n : Nat) (A : Nat → Nat) : List Value := (List.range n).map fun i => Value.int .i64 (A i : Nat)
theorem natsV_at {n i : Nat} (A : Nat → Nat) (h : i < n) : (natsV n A)[i]? = some (.int .i64 (A i : Nat)) := by simp [natsV, h]
theorem natsV_set {n k : Nat} {A B : Nat → Nat} {v : Nat} (hk : B k = v) (h : ∀ i, i < n → i ≠ k → A i = B i) : (natsV n A).set k (.int .i64 (v : Nat)) = natsV n B := by
  apply List.ext_getElem?
  intro i
  rw [List.getElem?_set]
  by_cases hi : i < n
  · by_cases e : k = i
    · subst e; rw [if_pos rfl, if_pos (by simpa [natsV] using hi), natsV_at B hi, hk]
    · rw [if_neg e, natsV_at A hi, natsV_at B hi, h i hi (fun x => e x.symm)]
  · by_cases e : k = i
    · subst e; simp [natsV, hi]
    · rw [if_neg e]; simp [natsV, hi]
def SA (w : World) (bs g cap n : Nat) (A : Nat → Nat) : Prop := bs ≠ g ∧ w.heap[bs]? = some (.cells #[.slice (some ⟨g, 0, none⟩) n cap] 117 (0, 0)) ∧ w.ownsRow g 3 1 (.slice (some ⟨g, 0, none⟩) n cap) n (natsV n A)
theorem SA.head {w : World} {bs g cap n : Nat} {A : Nat → Nat} (h : SA w bs g cap n A) : w.cell? ⟨bs, 0, none⟩ = some (.slice (some ⟨g, 0, none⟩) n cap) := (cell_of_row w bs 0 _ _ _ h.2.1).trans rfl
theorem SA.at {w : World} {bs g cap n i : Nat} {A : Nat → Nat} (h : SA w bs g cap n A) (hi : i < n) : w.cell? ⟨g, i, none⟩ = some (.int .i64 (A i : Nat)) := by
  rw [h.2.2.cellAt i (by omega), natsV_at A hi]
theorem SA.frozen {w : World} {bs g cap n i : Nat} {A : Nat → Nat} (h : SA w bs g cap n A) : w.frozen? ⟨g, i, none⟩ = false := h.2.2.frozenAt i
theorem SA.drew {w : World} {bs g cap n : Nat} {A : Nat → Nat} (h : SA w bs g cap n A) : SA w.drew bs g cap n A := ⟨h.1, h.2.1, h.2.2.drew⟩
theorem SA.set {w : World} {bs g cap n k v : Nat} {A B : Nat → Nat} (h : SA w bs g cap n A) (hk : B k = v) (hf : ∀ i, i < n → i ≠ k → A i = B i) : SA (w.setCell ⟨g, k, none⟩ (.int .i64 (v : Nat))) bs g cap n B := by
  refine ⟨h.1, ?_, ?_⟩
  · rw [Below.heap_setCell _ _ _ _ h.1]; exact h.2.1
  · have := (h.2.2.stored k (.int .i64 (v : Nat))).1
    rw [natsV_set hk hf] at this
    exact this
theorem gb_refl (w : World) (x : Option Nat) : w.grownBy w x := ⟨rfl, rfl, rfl, Nat.le_refl _, fun _ _ _ => rfl⟩
theorem gb_drew {w w' : World} {x : Option Nat} (h : w.grownBy w' x) : w.grownBy w'.drew x := ⟨h.os, h.tape, h.output, h.size, h.block⟩
theorem gb_set {w w' : World} {g : Nat} (h : w.grownBy w' (some g)) (i : Nat) (v : Value) : w.grownBy (w'.setCell ⟨g, i, none⟩ v) (some g) :=
  ⟨h.os, h.tape, h.output, by simpa using h.size, fun k hk hne => by
    rw [Below.heap_setCell _ _ _ _ (show k ≠ g from fun e => hne (by rw [e]))]
    exact h.block k hk hne⟩
set_option linter.unusedSimpArgs false in
set_option maxHeartbeats 4000000 in
theorem head_any (r : Nat → Nat) (bs g cap n x : Nat) (A R : Nat → Nat) (w : World) (hA : SA w bs g cap n A) (hu : UF r n A R) (hx : x < n) :
    Calls Try.prog 74 #[.pointer (some ⟨bs, 0, none⟩), .int .i64 x] w fun e w' => e = .returned (.int .i64 (R x : Nat)) ∧ ∃ B, Hid (UF r n B R) ∧ Hid (SA w' bs g cap n B) ∧ Hid (w.grownBy w' (some g)) := by
  have mixed : Try.prog.follows .mixedOrders = true := by kernel_rfl
  have HA := Lib.hid hA
  have HU := Lib.hid hu
  clear hA hu
  go_enter Try.func74, Try.ntmps74
  go_wp2
  go_loopw [1] (fun z wr => ∃ (c : Nat) (B : Nat → Nat), z = .int .i64 c ∧ c < n ∧ Hid (R c = R x) ∧ Hid (UF r n B R) ∧ Hid (SA wr bs g cap n B) ∧ Hid (w.grownBy wr (some g))) (fun z _ => r (intOf z).toNat)
  case atStart => exact ⟨x, A, rfl, hx, Lib.hid rfl, HU, HA, Lib.hid (gb_refl _ _)⟩
  case round =>
    clear HA HU
    obtain ⟨c, B, rfl, hc, HR, HU, HA, HG⟩ := hrel
    have p0 := HA.out.head
    have p1 := HA.out.at hc
    have hcn : (c : Int) < n := by omega
    obtain ⟨u1, u2, u3, u4, u5, u6⟩ := HU.out c hc
    by_cases hfix : B c = c
    · have HRES := Lib.hid (HR.out.symm.trans (u6 hfix))
      rw [hfix] at p1
      have hq : ((c : Int) != c) = false := by simp
      clear u1 u2 u3 u4 u5 u6 hfix
      go_wp2
      go_ret
      exact ⟨by rw [HRES.out]; rfl, B, HU, HA, HG⟩
    · have hq : (((B c : Nat) : Int) != c) = true := by rw [bne_iff_ne]; omega
      have p2 := HA.out.at u1
      obtain ⟨g1, g2, g3, g4, g5, g6⟩ := HU.out (B c) u1
      have HH := Lib.hid (HU.out.halve hc)
      have HRB := Lib.hid (show R (B (B c)) = R x from (g3.trans u3).trans HR.out)
      have hlt : r (B (B c)) < r c := by
        have := u5 hfix
        by_cases q : B (B c) = B c
        · rw [q]; exact this
        · have := g5 q; omega
      have HLT := Lib.hid hlt
      have HN := Lib.hid (HA.out.set (k := c) (v := B (B c)) (B := fun i => if i = c then B (B c) else B i) (by simp) (fun i _ hne => by rw [if_neg hne])).drew
      have HGN := Lib.hid (gb_drew (gb_set HG.out c (.int .i64 ((B (B c) : Nat)))))
      have s0 := HA.out.drew.head
      have s1 := HA.out.drew.at hc
      have s2 := HA.out.drew.at u1
      have s3 := HA.out.drew.frozen (i := c)
      obtain ⟨H9, hH9⟩ : ∃ H9, (fun i => if i = c then B (B c) else B i) = H9 := ⟨_, rfl⟩
      rw [hH9] at HH HN
      have hHc : H9 c = B (B c) := by rw [← hH9]; simp
      clear hH9 u2 u3 u4 u5 u6 g2 g3 g4 g5 g6 hlt HA HU HG HR hfix
      generalize B (B c) = b at *
      generalize B c = a at *
      have han : (a : Int) < n := by omega
      go_wp2
      refine region_goes 19 20 rfl (fun W => W.cell? ⟨bs, 0, none⟩ = some (.slice (some ⟨g, 0, none⟩) n cap) ∧ W.cell? ⟨g, c, none⟩ = some (.int .i64 (a : Int)) ∧ W.cell? ⟨g, a, none⟩ = some (.int .i64 (b : Int)) ∧ W.frozen? ⟨g, c, none⟩ = false) mixed ⟨s0, s1, s2, s3⟩ (fun hHeld => ?_)
      refine goes_take (i := 0) (v := ?gv0) rfl (by kernel_rfl) (by kernel_rfl) (by kernel_rfl) (by kernel_rfl) (fun _ _ _ h => h) (Or.inl ⟨by rfl, ?gy0⟩) (by assumption) ?gr0
      case gy0 => (intro W9 hW9; obtain ⟨k0, k1, k2, k3⟩ := hW9; first | (go_simp; done) | (go_simp; with_reducible rfl))
      simp only [Act.put, getElem_toArray, getElem_cons_succ, getElem_cons_zero, setIfInBounds_toArray, set_cons_zero, set_cons_succ]
      refine goes_take (i := 1) (v := ?gv1) rfl (by kernel_rfl) (by kernel_rfl) (by kernel_rfl) (by kernel_rfl) (fun _ _ _ h => h) (Or.inl ⟨by rfl, ?gy1⟩) (by assumption) ?gr1
      case gy1 => (intro W9 hW9; obtain ⟨k0, k1, k2, k3⟩ := hW9; first | (go_simp; done) | (go_simp; with_reducible rfl))
      simp only [Act.put, getElem_toArray, getElem_cons_succ, getElem_cons_zero, setIfInBounds_toArray, set_cons_zero, set_cons_succ]
      refine goes_take (i := 2) (v := ?gv2) rfl (by kernel_rfl) (by kernel_rfl) (by kernel_rfl) (by kernel_rfl) (fun _ _ _ h => h) (Or.inl ⟨by rfl, ?gy2⟩) (by assumption) ?gr2
      case gy2 => (intro W9 hW9; obtain ⟨k0, k1, k2, k3⟩ := hW9; first | (go_simp; done) | (go_simp; with_reducible rfl))
      simp only [Act.put, getElem_toArray, getElem_cons_succ, getElem_cons_zero, setIfInBounds_toArray, set_cons_zero, set_cons_succ]
      refine goes_take (i := 3) (v := ?gv3) rfl (by kernel_rfl) (by kernel_rfl) (by kernel_rfl) (by kernel_rfl) (fun _ _ _ h => h) (Or.inl ⟨by rfl, ?gy3⟩) (by assumption) ?gr3
      case gy3 => (intro W9 hW9; obtain ⟨k0, k1, k2, k3⟩ := hW9; first | (go_simp; done) | (go_simp; with_reducible rfl))
      simp only [Act.put, getElem_toArray, getElem_cons_succ, getElem_cons_zero, setIfInBounds_toArray, set_cons_zero, set_cons_succ]
      refine goes_take (i := 4) (v := ?gv4) rfl (by kernel_rfl) (by kernel_rfl) (by kernel_rfl) (by kernel_rfl) (fun _ _ _ h => h) (Or.inl ⟨by rfl, ?gy4⟩) (by assumption) ?gr4
      case gy4 => (intro W9 hW9; obtain ⟨k0, k1, k2, k3⟩ := hW9; first | (go_simp; done) | (go_simp; with_reducible rfl))
      simp only [Act.put, getElem_toArray, getElem_cons_succ, getElem_cons_zero, setIfInBounds_toArray, set_cons_zero, set_cons_succ]
      refine goes_take (i := 5) (v := ?gv5) rfl (by kernel_rfl) (by kernel_rfl) (by kernel_rfl) (by kernel_rfl) (fun _ _ _ h => h) (Or.inl ⟨by rfl, ?gy5⟩) (by assumption) ?gr5
      case gy5 => (intro W9 hW9; obtain ⟨k0, k1, k2, k3⟩ := hW9; first | (go_simp; done) | (go_simp; with_reducible rfl))
      simp only [Act.put, getElem_toArray, getElem_cons_succ, getElem_cons_zero, setIfInBounds_toArray, set_cons_zero, set_cons_succ]
      refine goes_take (i := 6) (v := ?gv6) rfl (by kernel_rfl) (by kernel_rfl) (by kernel_rfl) (by kernel_rfl) (fun _ _ _ h => h) (Or.inl ⟨by rfl, ?gy6⟩) (by assumption) ?gr6
      case gy6 => (intro W9 hW9; obtain ⟨k0, k1, k2, k3⟩ := hW9; first | (go_simp; done) | (go_simp; with_reducible rfl))
      simp only [Act.put, getElem_toArray, getElem_cons_succ, getElem_cons_zero, setIfInBounds_toArray, set_cons_zero, set_cons_succ]
      refine goes_take (i := 7) (v := ?gv7) rfl (by kernel_rfl) (by kernel_rfl) (by kernel_rfl) (by kernel_rfl) (fun _ _ _ h => h) (Or.inl ⟨by rfl, ?gy7⟩) (by assumption) ?gr7
      case gy7 => (intro W9 hW9; obtain ⟨k0, k1, k2, k3⟩ := hW9; first | (go_simp; done) | (go_simp; with_reducible rfl))
      simp only [Act.put, getElem_toArray, getElem_cons_succ, getElem_cons_zero, setIfInBounds_toArray, set_cons_zero, set_cons_succ]
      refine goes_take (i := 8) (v := ?gv8) rfl (by kernel_rfl) (by kernel_rfl) (by kernel_rfl) (by kernel_rfl) (fun _ _ _ h => h) (Or.inl ⟨by rfl, ?gy8⟩) (by assumption) ?gr8
      case gy8 => (intro W9 hW9; obtain ⟨k0, k1, k2, k3⟩ := hW9; first | (go_simp; done) | (go_simp; with_reducible rfl))
      simp only [Act.put, getElem_toArray, getElem_cons_succ, getElem_cons_zero, setIfInBounds_toArray, set_cons_zero, set_cons_succ]
      refine goes_take (i := 9) (v := ?gv9) rfl (by kernel_rfl) (by kernel_rfl) (by kernel_rfl) (by kernel_rfl) (fun _ _ _ h => h) (Or.inl ⟨by rfl, ?gy9⟩) (by assumption) ?gr9
      case gy9 => (intro W9 hW9; obtain ⟨k0, k1, k2, k3⟩ := hW9; first | (go_simp; done) | (go_simp; with_reducible rfl))
      simp only [Act.put, getElem_toArray, getElem_cons_succ, getElem_cons_zero, setIfInBounds_toArray, set_cons_zero, set_cons_succ]
      refine goes_take (i := 10) (v := ?gv10) rfl (by kernel_rfl) (by kernel_rfl) (by kernel_rfl) (by kernel_rfl) (fun _ _ _ h => h) (Or.inl ⟨by rfl, ?gy10⟩) (by assumption) ?gr10
      case gy10 => (intro W9 hW9; obtain ⟨k0, k1, k2, k3⟩ := hW9; first | (go_simp; done) | (go_simp; with_reducible rfl))
      simp only [Act.put, getElem_toArray, getElem_cons_succ, getElem_cons_zero, setIfInBounds_toArray, set_cons_zero, set_cons_succ]
      refine goes_take (i := 11) (v := ?gv11) rfl (by kernel_rfl) (by kernel_rfl) (by kernel_rfl) (by kernel_rfl) (fun _ _ _ h => h) (Or.inl ⟨by rfl, ?gy11⟩) (by assumption) ?gr11
      case gy11 => (intro W9 hW9; obtain ⟨k0, k1, k2, k3⟩ := hW9; first | (go_simp; done) | (go_simp; with_reducible rfl))
      simp only [Act.put, getElem_toArray, getElem_cons_succ, getElem_cons_zero, setIfInBounds_toArray, set_cons_zero, set_cons_succ]
      refine goes_take (i := 12) (v := ?gv12) rfl (by kernel_rfl) (by kernel_rfl) (by kernel_rfl) (by kernel_rfl) (fun _ _ _ h => h) (Or.inl ⟨by rfl, ?gy12⟩) (by assumption) ?gr12
      case gy12 => (intro W9 hW9; obtain ⟨k0, k1, k2, k3⟩ := hW9; first | (go_simp; done) | (go_simp; with_reducible rfl))
      simp only [Act.put, getElem_toArray, getElem_cons_succ, getElem_cons_zero, setIfInBounds_toArray, set_cons_zero, set_cons_succ]
      refine goes_take (i := 13) (v := ?gv13) rfl (by kernel_rfl) (by kernel_rfl) (by kernel_rfl) (by kernel_rfl) (fun _ _ _ h => h) (Or.inl ⟨by rfl, ?gy13⟩) (by assumption) ?gr13
      case gy13 => (intro W9 hW9; obtain ⟨k0, k1, k2, k3⟩ := hW9; first | (go_simp; done) | (go_simp; with_reducible rfl))
      simp only [Act.put, getElem_toArray, getElem_cons_succ, getElem_cons_zero, setIfInBounds_toArray, set_cons_zero, set_cons_succ]
      refine goes_take (i := 14) (v := ?gv14) rfl (by kernel_rfl) (by kernel_rfl) (by kernel_rfl) (by kernel_rfl) (fun _ _ _ h => h) (Or.inl ⟨by rfl, ?gy14⟩) (by assumption) ?gr14
      case gy14 => (intro W9 hW9; obtain ⟨k0, k1, k2, k3⟩ := hW9; first | (go_simp; done) | (go_simp; with_reducible rfl))
      simp only [Act.put, getElem_toArray, getElem_cons_succ, getElem_cons_zero, setIfInBounds_toArray, set_cons_zero, set_cons_succ]
      refine goes_take (i := 15) (v := ?gv15) rfl (by kernel_rfl) (by kernel_rfl) (by kernel_rfl) (by kernel_rfl) (fun _ _ _ h => h) (Or.inl ⟨by rfl, ?gy15⟩) (by assumption) ?gr15
      case gy15 => (intro W9 hW9; obtain ⟨k0, k1, k2, k3⟩ := hW9; first | (go_simp; done) | (go_simp; with_reducible rfl))
      simp only [Act.put, getElem_toArray, getElem_cons_succ, getElem_cons_zero, setIfInBounds_toArray, set_cons_zero, set_cons_succ]
      refine goes_take (i := 16) (v := ?gv16) rfl (by kernel_rfl) (by kernel_rfl) (by kernel_rfl) (by kernel_rfl) (fun _ _ _ h => h) (Or.inl ⟨by rfl, ?gy16⟩) (by assumption) ?gr16
      case gy16 => (intro W9 hW9; obtain ⟨k0, k1, k2, k3⟩ := hW9; first | (go_simp; done) | (go_simp; with_reducible rfl))
      simp only [Act.put, getElem_toArray, getElem_cons_succ, getElem_cons_zero, setIfInBounds_toArray, set_cons_zero, set_cons_succ]
      refine goes_take (i := 17) (v := ?gv17) rfl (by kernel_rfl) (by kernel_rfl) (by kernel_rfl) (by kernel_rfl) (fun _ _ _ h => h) (Or.inl ⟨by rfl, ?gy17⟩) (by assumption) ?gr17
      case gy17 => (intro W9 hW9; obtain ⟨k0, k1, k2, k3⟩ := hW9; first | (go_simp; done) | (go_simp; with_reducible rfl))
      simp only [Act.put, getElem_toArray, getElem_cons_succ, getElem_cons_zero, setIfInBounds_toArray, set_cons_zero, set_cons_succ]
      refine goes_take (i := 18) (v := ?gv18) rfl (by kernel_rfl) (by kernel_rfl) (by kernel_rfl) (by kernel_rfl) (fun _ _ _ h => h) (Or.inl ⟨by rfl, ?gy18⟩) (by assumption) ?gr18
      case gy18 => (intro W9 hW9; obtain ⟨k0, k1, k2, k3⟩ := hW9; first | (go_simp; done) | (go_simp; with_reducible rfl))
      simp only [Act.put, getElem_toArray, getElem_cons_succ, getElem_cons_zero, setIfInBounds_toArray, set_cons_zero, set_cons_succ]
      refine goes_one (i := 19) (by kernel_rfl) rfl (fun K9 hK9 => ?_)
      go_simp
      refine hK9.out _ _ (fun h => absurd rfl h) (fun _ => ?_)
      clear hK9 K9 hHeld
      refine goes_done (by kernel_rfl) ?_ _
      have p3 := HN.out.head
      have p4 := HN.out.at hc
      rw [hHc] at p4
      clear s0 s1 s2 s3 p0 p1 p2
      go_wp2
      go_roundw
      case rel => exact ⟨b, H9, rfl, g1, HRB, HH, HN, HGN⟩
      case measure => simp only [intOf, Int.toNat_natCast]; exact HLT.out
end Go.Proofs.Ytamgldhnfcikbaa
