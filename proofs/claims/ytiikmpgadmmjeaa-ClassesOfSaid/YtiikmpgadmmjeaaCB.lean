/- The contract of classes.Of. -/
import Derived.Test.YtiikmpgadmmjeaaC7
import Derived.Test.YtiikmpgadmmjeaaCA
set_option maxRecDepth 100000
namespace Go.Proofs.Ytiikmpgadmmjeaa
open Go.RowKit
attribute [local go_sem] zero_u8s

/-- Does each state lead to the same by two bytes? -/
def likeB (m : List Sta) (a b : Nat) : Bool := (List.range m.length).all fun i => nextS m (i : Nat) a == nextS m (i : Nat) b
/-- The same for the first states. -/
def likeU (m : List Sta) (n : Nat) (a b : Nat) : Bool := (List.range n).all fun i => nextS m (i : Nat) a == nextS m (i : Nat) b
theorem likeU_iff {m : List Sta} {n a b : Nat} : likeU m n a b = true ↔ ∀ i, i < n → nextS m (i : Nat) a = nextS m (i : Nat) b := by
  unfold likeU
  rw [List.all_eq_true]
  constructor
  · intro h i hi
    exact beq_iff_eq.1 (h i (by simpa using hi))
  · intro h i hi
    exact beq_iff_eq.2 (h i (by simpa using hi))
theorem likeU_eqv (m : List Sta) (n : Nat) : Eqv (likeU m n) :=
  ⟨fun _ => likeU_iff.2 fun _ _ => rfl, fun _ _ h => likeU_iff.2 fun i hi => (likeU_iff.1 h i hi).symm, fun _ _ _ h k => likeU_iff.2 fun i hi => (likeU_iff.1 h i hi).trans (likeU_iff.1 k i hi)⟩
theorem like_eqv (m : List Sta) : Eqv (likeB m) := likeU_eqv m m.length
theorem next_far (m : List Sta) {i : Nat} (h : m.length ≤ i) (b : Nat) : nextS m (i : Nat) b = -1 := by
  unfold nextS; rw [dif_neg (by simp; omega)]
theorem likeU_far (m : List Sta) {n : Nat} (h : m.length ≤ n) (a b : Nat) : likeU m n a b = likeB m a b := by
  rw [Bool.eq_iff_iff]
  show likeU m n a b = true ↔ likeU m m.length a b = true
  rw [likeU_iff, likeU_iff]
  constructor
  · intro h1 i hi; exact h1 i (by omega)
  · intro h1 i hi
    by_cases hl : i < m.length
    · exact h1 i hl
    · rw [next_far m (by omega), next_far m (by omega)]
/-- The classes by the first states. -/
def clsIt (m : List Sta) : Nat → Nat → Nat
  | 0 => fun _ => 0
  | j + 1 => clsOf (colE m (63 * j) (clsIt m j))
theorem eqC_iff {f g : Nat → Int} : eqC f g = true ↔ ∀ i, i < 64 → f i = g i := by
  unfold eqC
  rw [List.all_eq_true]
  constructor
  · intro h i hi
    exact beq_iff_eq.1 (h i (by simpa using hi))
  · intro h i hi
    exact beq_iff_eq.2 (h i (by simpa using hi))
theorem clsIt_is (m : List Sta) : ∀ j b, b < 256 → clsIt m j b = clsOf (likeU m (63 * j)) b
  | 0, b, _ => by
    show 0 = _
    have h := (cls_iff (likeU_eqv m 0) b 0).2 (likeU_iff.2 fun i hi => by omega)
    rw [show 63 * 0 = 0 from rfl, h]
    rfl
  | j + 1, b, hb => by
    show clsOf (colE m (63 * j) (clsIt m j)) b = _
    refine cls_congr (n := 256) (fun x y hx hy => ?_) hb
    rw [Bool.eq_iff_iff]
    unfold colE
    rw [eqC_iff, likeU_iff]
    have hx1 := clsIt_is m j x hx
    have hy1 := clsIt_is m j y hy
    have hcc := cls_iff (likeU_eqv m (63 * j)) x y
    rw [likeU_iff] at hcc
    unfold colB colS
    constructor
    · intro h i hi
      by_cases h1 : i < 63 * j
      · have h0 := h 0 (by omega)
        simp only [if_true] at h0
        rw [hx1, hy1] at h0
        exact hcc.1 (by omega) i h1
      · have h2 := h (i - 63 * j + 1) (by omega)
        rw [if_neg (by omega), if_neg (by omega)] at h2
        rw [show ((63 * j : Nat) : Int) + ((i - 63 * j + 1 : Nat) : Int) - 1 = (i : Nat) by omega] at h2
        exact h2.symm
    · intro h i hi
      by_cases h0 : i = 0
      · rw [if_pos h0, if_pos h0, hx1, hy1]
        have := hcc.2 fun k hk => h k (by omega)
        omega
      · rw [if_neg h0, if_neg h0]
        rw [show ((63 * j : Nat) : Int) + (i : Nat) - 1 = ((63 * j + (i - 1) : Nat) : Int) by omega]
        exact (h _ (by omega)).symm
theorem clsIt_lt (m : List Sta) (j b : Nat) (hb : b < 256) : clsIt m j b < 256 := by
  rw [clsIt_is m j b hb]
  have := cls_le (likeU m (63 * j)) b
  have := reps_len (likeU m (63 * j)) b
  omega
theorem clsIt_end (m : List Sta) {j : Nat} (h : m.length ≤ 63 * j) (b : Nat) (hb : b < 256) : clsIt m j b = clsOf (likeB m) b := by
  rw [clsIt_is m j b hb]
  exact cls_congr (n := 256) (fun x y _ _ => likeU_far m h x y) hb
/-- How many classes there are. -/
def cntOf (m : List Sta) : Nat := (repsUp (likeB m) 256).length
theorem cnt_mx (m : List Sta) : mxOf (clsOf (likeB m)) 256 + 1 = cntOf m := cls_count (like_eqv m) (by omega)
theorem cntOf_le (m : List Sta) : cntOf m ≤ 256 := reps_len _ _
theorem cls_lt (m : List Sta) (b : Nat) (hb : b < 256) : clsOf (likeB m) b < 256 := by
  have := cls_le (likeB m) b
  have := reps_len (likeB m) b
  omega
theorem of_result {w : World} {b : Nat} {f : Nat → Nat} (h : UBlk w b f) {tmps : Array Value} {v : Value} (ht : tmps.getD 2 undef = .pointer (some ⟨b, 0, none⟩)) (hv : tmps.getD 3 undef = v) : (results Try.f8 tmps).run Try.prog w = .ok (.tuple #[.agg (U8s f), v]) w := by
  have hp : tmps[2]?.getD undef = .pointer (some ⟨b, 0, none⟩) := by simpa using ht
  have hq : tmps[3]?.getD undef = v := by simpa using hv
  simp [results, hp, hq, asAddr, load_u8c h]
theorem exec_load_u8c {op : Oper} {a : Act} {w : World} {b : Nat} {f : Nat → Nat} (hb : UBlk w b f) (x : Operand) (ho : op.op = .load 24 x) (hx : a.eval x = .pointer (some ⟨b, 0, none⟩)) : (execOp a.eval op).run Try.prog w = .ok (.value (.agg (U8s f))) w := by
  unfold execOp
  simp only [ho, hx, Instr.loadAt, Instr.sureAddr, Sem.run_bind, Sem.run_pure, Result.andThen_ok, load_u8c hb]
theorem oper_store_u8c {op : Oper} {a : Act} {w : World} {K : Act → World → Prop} {Q : Exit → Act → World → Prop} (b : Nat) (f g : Nat → Nat) (hb : UBlk w b f) (x y : Operand) (ho : op.op = .store 24 x y)
    (hx : a.eval x = .pointer (some ⟨b, 0, none⟩)) (hy : a.eval y = .agg (U8s g)) (h : K (a.put op.dst undef) (w.setRow b (U8s g))) : Oper.wp Try.prog op a w K Q := by
  unfold Oper.wp execOp
  simp only [ho, hx, hy, Instr.storeAt, Instr.sureAddr, Sem.run_bind, Sem.run_pure, Result.andThen_ok, store_u8c hb]
  exact h
set_option linter.unusedSimpArgs false in
set_option maxHeartbeats 4000000 in
theorem of_any (v : Value) (m : List Sta) (w : World) (hv : MachAt w v m) (hml : m.length < 1000000) (hl : ∀ s ∈ m, s.arcs.length < 9223372036854775808) (hm : Mays m) :
    Calls Try.prog 8 #[v] w fun e w' => e = .returned (.tuple #[.agg (U8s (clsOf (likeB m))), .int .i64 (cntOf m : Nat)]) ∧ Below w.heap.size w w' := by
  have mixed : Try.prog.follows .mixedOrders = true := by kernel_rfl
  obtain ⟨av, cv, rfl⟩ := hv.len
  obtain ⟨B0, hB⟩ : ∃ B, w.heap.size = B := ⟨_, rfl⟩
  have HB := Lib.hid hB
  have HSP := Lib.hid (fun (W : World) (hb : Below B0 w W) (j : Nat) (hj : 63 * j < 4611686018427387904) => split_any (clsIt m j) _ m (63 * j) W (hv.below (by rw [hB]; exact hb)) hl hm hj (clsIt_lt m j))
  have HEND := Lib.hid (fun (j : Nat) (h : m.length ≤ 63 * j) => clsIt_end m h)
  have HLW := Lib.hid (fun (W : World) => lows_any (clsOf (likeB m)) (cntOf m) W (cls_lt m) (cnt_mx m))
  clear hv hl hm
  obtain ⟨I1, hI1⟩ : ∃ I1, U8s (fun _ => 0) = I1 := ⟨_, rfl⟩
  obtain ⟨w1, hw1⟩ : ∃ w1, (w.alloc (.cells I1 24)).alloc (.cells I1 24) = w1 := ⟨_, rfl⟩
  have hsz : w1.heap.size = B0 + 2 := by rw [← hw1]; simp [hB]
  have HR : Hid (UBlk w1 B0 fun _ => 0) := Lib.hid (by
    rw [← hw1]; unfold UBlk
    rw [heap_alloc_old _ _ (by simp; omega), hI1, ← hB]; exact heap_alloc_new w _)
  have HC : Hid (UBlk w1 (B0 + 1) (clsIt m 0)) := Lib.hid (by
    rw [← hw1]; unfold UBlk
    show _ = some (Obj.cells (U8s fun _ => 0) _ _)
    rw [hI1]
    have := heap_alloc_new (w.alloc (.cells I1 24)) (.cells I1 24)
    rw [World.size_alloc, hB] at this; exact this)
  have HBW : Hid (Below B0 w w1) := Lib.hid (by
    rw [← hw1, ← hB]
    exact ((Below.refl _ w).alloc (Nat.le_refl _) _).alloc (by simp) _)
  have hz := zero_u8s
  rw [hI1] at hz
  rw [hB]
  go_enter Try.func8, Try.ntmps8
  go_wp2
  clear hz hI1 hw1
  generalize hb1 : B0 + 1 = b1 at *
  have HBS := Lib.hid hb1
  clear hb1
  go_loopw [5] (fun z wr => ∃ j : Nat, z = .int .i64 (63 * j : Nat) ∧ 63 * j < m.length + 63 ∧ Hid (B0 + 2 ≤ wr.heap.size) ∧ Hid (UBlk wr B0 fun _ => 0) ∧ Hid (UBlk wr b1 (clsIt m j)) ∧ Hid (Below B0 w wr)) (fun z _ => (m.length + 63) - (intOf z).toNat)
  case atStart => exact ⟨0, rfl, by omega, Lib.hid (by omega), HR, HC, HBW⟩
  case round =>
    clear HR HC HBW hsz
    obtain ⟨j, rfl, hj, HSZ, HR, HC, HBW⟩ := hrel
    obtain ⟨s, hs⟩ : ∃ s, 63 * j = s := ⟨_, rfl⟩
    have HS := Lib.hid hs
    by_cases hlt : s < m.length
    · have hd : decide ((s : Int) < m.length) = true := decide_eq_true (by omega)
      have HCK := Lib.hid (HSP.out wr HBW.out j (by omega))
      rw [hs] at HCK hj ⊢
      have hww : IntKind.i64.wrap ((s : Int) + 63) = (s : Int) + 63 := by rw [IntKind.wrap_i64]; omega
      clear hs
      obtain ⟨g, hg⟩ : ∃ g, clsOf (colE m s (clsIt m j)) = g := ⟨_, rfl⟩
      have HG := Lib.hid hg
      rw [hg] at HCK
      clear hg
      go_wp2_with (first
        | (refine wpList_load_u8c b1 (clsIt m j) HC.out rfl _ rfl rfl ?_)
        | (go_at_call 23; (with_reducible refine HCK.out.mono ?_); rintro e w5 ⟨rfl, hb5⟩; have HB5 := Lib.hid hb5; have HC5 := Lib.hid (HC.out.below HB5.out); clear hb5)
        | (refine wpList_store_u8c b1 (clsIt m j) g HC5.out rfl _ _ rfl rfl rfl ?_))
      have hsz5 := (below_setRow (Below.refl b1 w5) (Nat.le_refl b1) (U8s g)).size
      have hlb : B0 < b1 := by have := HBS.out; omega
      have h5 := HB5.out.size
      have h6 := HSZ.out
      have hs2 := HS.out
      exact ⟨⟨j + 1, by rw [show ((63 * (j + 1) : Nat) : Int) = (s : Int) + 63 by omega], by omega, Lib.hid (by omega), Lib.hid (((below_setRow (Below.refl b1 w5) (Nat.le_refl b1) (U8s g)).block B0 hlb).trans (HR.out.below HB5.out)), Lib.hid (by
        have := HC5.out.setRow (g := g)
        rw [← HG.out, ← HS.out] at this
        rw [← HG.out, ← HS.out]
        exact this), Lib.hid (below_setRow (HBW.out.trans (HB5.out.mono (by omega))) (by omega) _)⟩, by simp only [intOf]; omega⟩
    · have hd : decide ((s : Int) < m.length) = false := decide_eq_false (by omega)
      have hdn : decide (s < m.length) = false := decide_eq_false hlt
      have HC1 : Hid (UBlk wr b1 (clsOf (likeB m))) := Lib.hid (HC.out.congr fun i hi => HEND.out j (by omega) i hi)
      rw [hs]
      clear HC hs hlt
      obtain ⟨cl, hcl⟩ : ∃ cl, clsOf (likeB m) = cl := ⟨_, rfl⟩
      rw [hcl] at HLW HC1
      go_upto_region 6 with fail
      refine region_goes 6 6 rfl (fun W => UBlk W b1 cl) mixed HC1.out (fun hHeld => ?_)
      refine goes_take0 (i := 0) (v := .agg (U8s cl)) rfl (by kernel_rfl) (by kernel_rfl) (by kernel_rfl) rfl (fun _ _ _ h => h) (Or.inl ⟨by rfl, ?hy1⟩) (by assumption) ?hr1
      case hy1 => (intro W9 hW9; exact exec_load_u8c hW9 (.tmp 4) rfl rfl)
      simp only [Act.put, List.getElem_toArray, List.getElem_cons_succ, List.getElem_cons_zero, List.setIfInBounds_toArray, List.set_cons_zero, List.set_cons_succ]
      refine goes_take0 (i := 1) (v := .agg (U8s cl)) rfl (by kernel_rfl) (by kernel_rfl) (by kernel_rfl) rfl (fun _ _ _ h => h) (Or.inl ⟨by rfl, ?hy2⟩) (by assumption) ?hr2
      case hy2 => (intro W9 hW9; exact exec_load_u8c hW9 (.tmp 4) rfl rfl)
      simp only [Act.put, List.getElem_toArray, List.getElem_cons_succ, List.getElem_cons_zero, List.setIfInBounds_toArray, List.set_cons_zero, List.set_cons_succ]
      refine goes_one (i := 2) (by kernel_rfl) rfl (fun K9 hK9 => ?_)
      go_simp
      with_reducible refine (HLW.out _).mono ?_
      rintro e w5 ⟨bl, rfl, _, _, HB5⟩
      refine hK9.out _ _ (fun _ => hHeld.below HB5.out) (fun hHeld => ?_)
      have hHeld := hHeld (by decide)
      clear hK9 K9
      have HR5 : Hid (UBlk w5 B0 fun _ => 0) := Lib.hid (UBlk.below (w := wr.drew) HR.out HB5.out)
      have hbel5 : Below B0 w w5 := HBW.out.trans ((Below.refl B0 wr).drew.trans (HB5.out.mono (show B0 ≤ wr.drew.heap.size from by show B0 ≤ wr.heap.size; have := HSZ.out; omega)))
      have HB5' := Lib.hid hbel5
      clear hbel5
      refine goes_take0 (i := 3) (v := ?hv3) rfl (by kernel_rfl) (by kernel_rfl) (by kernel_rfl) rfl (fun _ _ _ h => h) (Or.inl ⟨by rfl, ?hy3⟩) (by assumption) ?hr3
      case hy3 => (intro W9 _; first | (go_simp; done) | (go_simp; with_reducible rfl))
      simp only [Act.put, List.getElem_toArray, List.getElem_cons_succ, List.getElem_cons_zero, List.setIfInBounds_toArray, List.set_cons_zero, List.set_cons_succ]
      refine goes_one (i := 4) (by kernel_rfl) rfl (fun K9 hK9 => ?_)
      rw [if_pos (by rfl)]
      refine oper_store_u8c B0 (fun _ => 0) cl HR5.out (.tmp 2) (.tmp 16) rfl rfl rfl ?_
      have HRES := Lib.hid (HR5.out.setRow (g := cl))
      have HRB := Lib.hid (below_setRow HB5'.out (Nat.le_refl B0) (U8s cl))
      have hlb : B0 < b1 := by have := HBS.out; omega
      have hkeep : UBlk (w5.setRow B0 (U8s cl)) b1 cl := by
        unfold UBlk at *
        show (w5.heap.modify B0 _)[b1]? = _
        rw [Array.getElem?_modify, if_neg (by omega)]
        exact hHeld
      refine hK9.out _ _ (fun _ => hkeep) (fun hHeld => ?_)
      have hHeld := hHeld (by decide)
      clear hK9 K9 hkeep
      generalize w5.setRow B0 (U8s cl) = w9 at *
      refine goes_take0 (i := 5) (v := ?hv5) rfl (by kernel_rfl) (by kernel_rfl) (by kernel_rfl) rfl (fun _ _ _ h => h) (Or.inl ⟨by rfl, ?hy5⟩) (by assumption) ?hr5
      case hy5 => (intro W9 _; first | (go_simp; done) | (go_simp; with_reducible rfl))
      simp only [Act.put, List.getElem_toArray, List.getElem_cons_succ, List.getElem_cons_zero, List.setIfInBounds_toArray, List.set_cons_zero, List.set_cons_succ]
      refine goes_done (by kernel_rfl) ?_ _
      go_wp2
      rw [hcl]
      exact bodyPost_ret (v := .tuple #[.agg (U8s cl), .int .i64 (cntOf m : Nat)]) (of_result HRES.out rfl rfl) rfl ⟨rfl, HRB.out⟩
end Go.Proofs.Ytiikmpgadmmjeaa
