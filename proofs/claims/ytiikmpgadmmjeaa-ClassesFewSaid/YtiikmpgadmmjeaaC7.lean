/- The contract of classes.split. -/
import Derived.Test.YtiikmpgadmmjeaaC5
import Derived.Test.YtiikmpgadmmjeaaC6
set_option maxRecDepth 100000
namespace Go.Proofs.Ytiikmpgadmmjeaa
open Go.RowKit
attribute [local go_sem] zero_u8s

/-- A byte's column by the classes that are, and what two bytes have in common. -/
def colB (m : List Sta) (start : Nat) (cls : Nat → Nat) (b : Nat) : Nat → Int := colS m start b (cls b)
def colE (m : List Sta) (start : Nat) (cls : Nat → Nat) (x b : Nat) : Bool := eqC (colB m start cls b) (colB m start cls x)
theorem find_cls (m : List Sta) (start : Nat) (cls : Nat → Nat) (b : Nat) : ((repsUp (colE m start cls) b).map (colB m start cls)).findIdx (eqC (colB m start cls b)) = clsOf (colE m start cls) b := by
  unfold clsOf
  rw [List.findIdx_map]
  rfl
theorem split_result {w : World} {b : Nat} {f : Nat → Nat} (h : UBlk w b f) {tmps : Array Value} (ht : tmps.getD 6 undef = .pointer (some ⟨b, 0, none⟩)) : (results Try.f23 tmps).run Try.prog w = .ok (.agg (U8s f)) w :=
  results_cell_row (fn := Try.f23) rfl tmps w b _ _ _ _ ht h Try.underlying24 rfl (by rw [infoU8s, u8c_size])
theorem setMap_other (w : World) (r k : Nat) (es : Array MapEntry) (c : Nat) (h : k ≠ r) : (setMap w r es c).heap[k]? = w.heap[k]? := by
  have : r ≠ k := fun e => h e.symm
  simp [setMap, this]
theorem below_setMap {N : Nat} {w w' : World} (h : Below N w w') (r : Nat) (hr : N ≤ r) (es : Array MapEntry) (c : Nat) : Below N w (setMap w' r es c) :=
  h.trans ⟨rfl, rfl, rfl, by simp [setMap], fun k hk => setMap_other w' r k es c (by omega)⟩
theorem UBlk.eq {w w' : World} {b : Nat} {f : Nat → Nat} (h : UBlk w b f) (e : w'.heap[b]? = w.heap[b]?) : UBlk w' b f := e.trans h
theorem setMap_size (w : World) (r : Nat) (es : Array MapEntry) (c : Nat) : (setMap w r es c).heap.size = w.heap.size := by simp [setMap]
set_option maxHeartbeats 4000000 in
theorem split_any (cls : Nat → Nat) (v : Value) (m : List Sta) (start : Nat) (w : World) (hv : MachAt w v m) (hl : ∀ s ∈ m, s.arcs.length < 9223372036854775808) (hm : Mays m) (hs : start < 4611686018427387904) (hc : ∀ b, b < 256 → cls b < 256) :
    Calls Try.prog 23 #[.agg (U8s cls), v, .int .i64 start] w fun e w' => e = .returned (.agg (U8s (clsOf (colE m start cls)))) ∧ Below w.heap.size w w' := by
  obtain ⟨av, cv, rfl⟩ := hv.len
  have HCO := Lib.hid (fun (W : World) (hb : Below w.heap.size w W) (b : Nat) (hb2 : b < 256) => show Calls Try.prog 39 #[.slice av m.length cv, .int .i64 start, .int .u8 b, .int .u8 (cls b)] W fun e w' => e = .returned (.agg (Cols (colB m start cls b))) ∧ Below W.heap.size W w' from column_any _ m start b (cls b) W (hv.below hb) hl hm hs (hc b hb2))
  have HFI := Lib.hid (find_cls m start cls)
  clear hv hl hm hs
  have HCC := Lib.hid hc
  clear hc
  obtain ⟨E, hE⟩ : ∃ E, colE m start cls = E := ⟨_, rfl⟩
  obtain ⟨col, hcol⟩ : ∃ col, colB m start cls = col := ⟨_, rfl⟩
  rw [hE, hcol] at HFI
  rw [hcol] at HCO
  rw [hE]
  clear hE hcol
  obtain ⟨B0, hB⟩ : ∃ B, w.heap.size = B := ⟨_, rfl⟩
  have HB := Lib.hid hB
  obtain ⟨I0, hI0⟩ : ∃ I0, U8s cls = I0 := ⟨_, rfl⟩
  obtain ⟨I1, hI1⟩ : ∃ I1, U8s (fun _ => 0) = I1 := ⟨_, rfl⟩
  obtain ⟨I2, hI2⟩ : ∃ I2, Cols (fun _ => 0) = I2 := ⟨_, rfl⟩
  have HI2 := Lib.hid hI2
  obtain ⟨w1, hw1⟩ : ∃ w1, (((w.alloc (.cells I0 24)).alloc (.cells I1 24)).alloc (.cells I1 24)).alloc (.map #[] 0) = w1 := ⟨_, rfl⟩
  have hsz : w1.heap.size = B0 + 4 := by rw [← hw1]; simp [hB]
  have HU : Hid (UBlk w1 B0 cls) := Lib.hid (by
    rw [← hw1]; unfold UBlk
    rw [heap_alloc_old _ _ (by simp; omega), heap_alloc_old _ _ (by simp; omega), heap_alloc_old _ _ (by simp; omega), hI0, ← hB]; exact heap_alloc_new w _)
  have HR : Hid (UBlk w1 (B0 + 1) fun _ => 0) := Lib.hid (by
    rw [← hw1]; unfold UBlk
    rw [heap_alloc_old _ _ (by simp; omega), heap_alloc_old _ _ (by simp; omega), hI1]
    have := heap_alloc_new (w.alloc (.cells I0 24)) (.cells I1 24)
    rw [World.size_alloc, hB] at this; exact this)
  have HF : Hid (UBlk w1 (B0 + 1 + 1) fun _ => 0) := Lib.hid (by
    rw [← hw1]; unfold UBlk
    rw [heap_alloc_old _ _ (by simp; omega), hI1]
    have := heap_alloc_new ((w.alloc (.cells I0 24)).alloc (.cells I1 24)) (.cells I1 24)
    rw [World.size_alloc, World.size_alloc, hB] at this; exact this)
  have HM : Hid (CM w1 (B0 + 1 + 1 + 1) []) := Lib.hid (by
    refine ⟨#[], 0, ?_, rfl⟩
    rw [← hw1]
    have := heap_alloc_new (((w.alloc (.cells I0 24)).alloc (.cells I1 24)).alloc (.cells I1 24)) (.map #[] 0)
    rw [World.size_alloc, World.size_alloc, World.size_alloc, hB] at this; exact this)
  have HBW : Hid (Below B0 w w1) := Lib.hid (by
    rw [← hw1, ← hB]
    exact ((((Below.refl _ w).alloc (Nat.le_refl _) _).alloc (by simp) _).alloc (by simp; omega) _).alloc (by simp; omega) _)
  have hz := zero_u8s
  rw [hI1] at hz
  have hmm := run_makeMap (P := Try.prog) 68
  rw [hI0, hB]
  go_enter Try.func23, Try.ntmps23
  go_wp2
  clear hz hI1 hI0 hw1 hmm hI2
  generalize hb3 : B0 + 1 + 1 + 1 = b3 at *
  generalize hb2 : B0 + 1 + 1 = b2 at *
  generalize hb1 : B0 + 1 = b1 at *
  have HBS := Lib.hid (show b1 = B0 + 1 ∧ b2 = B0 + 2 ∧ b3 = B0 + 3 by omega)
  clear hb1 hb2 hb3
  have HUC := Lib.hid (show ∀ k, k < 256 → clsOf E k < 256 from fun k hk => by have := cls_le E k; have := reps_len E k; omega)
  go_loopw [9, 10, 11, 12, 14] (fun _ _ _ _ z wr => ∃ k : Nat, z = .int .i64 k ∧ k ≤ 256 ∧ Hid (B0 + 4 ≤ wr.heap.size) ∧ Hid (UBlk wr B0 cls) ∧ Hid (UBlk wr b1 fun _ => 0) ∧ Hid (UBlk wr b2 fun i => if i < k then clsOf E i else 0) ∧ Hid (CM wr b3 ((repsUp E k).map col)) ∧ Hid (Below B0 w wr)) (fun _ _ _ _ z _ => 256 - (intOf z).toNat)
  case atStart => exact ⟨0, rfl, Nat.zero_le _, Lib.hid (by omega), HU, HR, Lib.hid (HF.out.congr fun i _ => by rw [if_neg (by omega)]), HM, HBW⟩
  case round =>
    clear HU HR HF HM HBW hsz
    obtain ⟨k, rfl, hk, HSZ, HU, HR, HF, HM, HBW⟩ := hrel
    by_cases hlt : k < 256
    · have hd : decide ((k : Int) < 256) = true := decide_eq_true (by omega)
      have hk256 : (k : Int) < 256 := by omega
      have c0 := HU.out.cell hlt
      have hwk : IntKind.u8.wrap (k : Int) = k := by rw [IntKind.wrap_u8]; omega
      have HCK := Lib.hid (HCO.out wr (by rw [HB.out]; exact HBW.out) k hlt)
      have HFK := Lib.hid (HFI.out k)
      obtain ⟨f, hf⟩ : ∃ f, col k = f := ⟨_, rfl⟩
      have HF0 := Lib.hid hf
      rw [hf] at HCK HFK
      clear hf
      obtain ⟨n5, hn5⟩ : ∃ n5 : Nat, n5 = 0 := ⟨_, rfl⟩
      clear n5 hn5
      go_upto_region 7 with (first
        | (go_at_call 39; (with_reducible refine HCK.out.mono ?_); rintro e w5 ⟨rfl, hb5⟩; obtain ⟨n5, hn5⟩ : ∃ n5, w5.heap.size = n5 := ⟨_, rfl⟩; have HN5 := Lib.hid hn5; have HC5 : Hid (CBlk (w5.alloc (.cells I2 70)) n5 fun _ => 0) := Lib.hid (by rw [← HI2.out, ← HN5.out]; exact heap_alloc_new w5 _); have HB5 := Lib.hid hb5; clear hb5 hn5)
        | (refine wpList_alloc_col I2 HI2.out rfl rfl n5 HN5.out ?_)
        | (refine wpList_store_cols n5 (fun _ => 0) f HC5.out rfl _ _ rfl rfl rfl ?_))
      obtain ⟨w6, hw6⟩ : ∃ w6, (w5.alloc (.cells I2 70)).setRow n5 (Cols f) = w6 := ⟨_, rfl⟩
      have HC6 : Hid (CBlk w6 n5 f) := Lib.hid (by rw [← hw6]; exact HC5.out.setRow)
      have hn5 := HN5.out
      have hsz0 := HSZ.out
      have hsz5 := HB5.out.size
      obtain ⟨e1, e2, e3⟩ := HBS.out
      have hb56 : Below n5 w5 w6 := by rw [← hw6]; exact below_setRow ((Below.refl n5 w5).alloc (by omega) _) (Nat.le_refl n5) _
      have hb06 : Below wr.heap.size wr w6 := HB5.out.trans (hb56.mono (by omega))
      have HU6 := Lib.hid (HU.out.below hb06)
      have HR6 := Lib.hid (HR.out.below hb06)
      have HF6 := Lib.hid (HF.out.below hb06)
      have HM6 : Hid (CM w6 b3 ((repsUp E k).map col)) := Lib.hid (cm_other HM.out (hb06.block b3 (by omega)))
      have HB6 := Lib.hid (HBW.out.trans (hb06.mono (by omega)))
      have hs6 : B0 + 4 ≤ w6.heap.size := by have := hb06.size; omega
      have HS6 := Lib.hid hs6
      have hne02 : B0 ≠ b2 := by omega
      have hne12 : b1 ≠ b2 := by omega
      have hne32 : b3 ≠ b2 := by omega
      have hne23 : b2 ≠ b3 := by omega
      have hne03 : B0 ≠ b3 := by omega
      have hne13 : b1 ≠ b3 := by omega
      have hle2 : B0 ≤ b2 := by omega
      have hle3 : B0 ≤ b3 := by omega
      have HNE := Lib.hid (show B0 ≠ b2 ∧ b1 ≠ b2 ∧ b3 ≠ b2 ∧ b2 ≠ b3 ∧ B0 ≠ b3 ∧ b1 ≠ b3 ∧ B0 ≤ b2 ∧ B0 ≤ b3 from ⟨hne02, hne12, hne32, hne23, hne03, hne13, hle2, hle3⟩)
      rw [hw6]
      have hlk := look_col HM6.out f
      rw [HFK.out, List.length_map] at hlk
      clear hw6 hb56 hb06 hsz5 hsz0 hn5 HN5 HC5 HB5 HU HR HF HM HBW HCK c0 e1 e2 e3 hne02 hne12 hne32 hne23 hne03 hne13 hle2 hle3 hs6 HSZ hwk
      by_cases hfd : clsOf E k < (repsUp E k).length
      · rw [if_pos hfd, decide_eq_true hfd] at hlk
        have HRU := Lib.hid (reps_old hfd)
        have hcl := HUC.out k hlt
        clear hfd
        have HSET := Lib.hid (HF6.out.set (k := k) (g := fun i => if i < k + 1 then clsOf E i else 0) (v := clsOf E k) (by rw [if_pos (by omega)]) (fun i _ hne => by
          by_cases h : i < k
          · rw [if_pos h, if_pos (by omega)]
          · rw [if_neg h, if_neg (by omega)]))
        have hfz : w6.frozen? ⟨b2, k, none⟩ = false := HF6.out.frozen
        have c1 := HF6.out.cell hlt
        generalize clsOf E k = q at *
        have hwq : IntKind.u8.wrap (q : Int) = q := by rw [IntKind.wrap_u8]; omega
        have hlk2 : (Instr.lookup 68 (.map (some b3)) (.agg (Cols f)) true).run Try.prog w6 = .ok (.tuple #[.int .i64 (q : Nat), .bool true]) w6 := hlk
        clear hlk
        go_wp2_with (refine wpList_load_cols n5 f HC6.out rfl _ rfl rfl ?_)
        exact ⟨⟨k + 1, rfl, hlt, Lib.hid (by simp; exact HS6.out), Lib.hid (HU6.out.other HNE.out.1 _), Lib.hid (HR6.out.other HNE.out.2.1 _), HSET, Lib.hid (by rw [HRU.out]; exact cm_other HM6.out (Below.heap_setCell _ _ _ _ HNE.out.2.2.1)), Lib.hid (HB6.out.setCell HNE.out.2.2.2.2.2.2.1 _)⟩, by simp only [intOf]; omega⟩
      · rw [if_neg hfd, decide_eq_false hfd] at hlk
        have HRU := Lib.hid (reps_new hfd)
        have hcl := HUC.out k hlt
        have hql : (repsUp E k).length = clsOf E k := by have := cls_le E k; omega
        obtain ⟨es, ec, hem, hes⟩ := HM6.out.len
        obtain ⟨es2, c2, hput, hcm⟩ := put_col HM6.out (f := f) (by rw [HFK.out, List.length_map]; exact hfd)
        rw [List.length_map] at hes hput
        rw [← hes] at hput
        rw [hql] at hes
        have hput2 : (Instr.mapUpdate 68 (.map (some b3)) (.agg (Cols f)) (.int .i64 (es.size : Nat))).run Try.prog w6 = .ok () (setMap w6 b3 es2 c2) := hput
        have hlk2 : (Instr.lookup 68 (.map (some b3)) (.agg (Cols f)) true).run Try.prog w6 = .ok (.tuple #[.int .i64 0, .bool false]) w6 := hlk
        have hlen : (Builtin.len_ #[68] 3 #[.map (some b3)]).run Try.prog w6 = .ok (.int .i64 (es.size : Nat)) w6 := by simp [Builtin.len_, run_underlying Try.underlying68, MapKept.run_getObj_map hem, goInt, Result.andThen]
        clear hput hlk hfd hql
        obtain ⟨w7, hw7⟩ : ∃ w7, setMap w6 b3 es2 c2 = w7 := ⟨_, rfl⟩
        have HU7 : Hid (UBlk w7 B0 cls) := Lib.hid (by rw [← hw7]; exact HU6.out.eq (setMap_other _ _ _ _ _ HNE.out.2.2.2.2.1))
        have HR7 : Hid (UBlk w7 b1 fun _ => 0) := Lib.hid (by rw [← hw7]; exact HR6.out.eq (setMap_other _ _ _ _ _ HNE.out.2.2.2.2.2.1))
        have HF7 : Hid (UBlk w7 b2 fun i => if i < k then clsOf E i else 0) := Lib.hid (by rw [← hw7]; exact HF6.out.eq (setMap_other _ _ _ _ _ HNE.out.2.2.2.1))
        have HB7 : Hid (Below B0 w w7) := Lib.hid (by rw [← hw7]; exact below_setMap HB6.out b3 HNE.out.2.2.2.2.2.2.2 _ _)
        have HS7 : Hid (B0 + 4 ≤ w7.heap.size) := Lib.hid (by rw [← hw7, setMap_size]; exact HS6.out)
        have HM7 : Hid (CM w7 b3 ((repsUp E (k + 1)).map col)) := Lib.hid (by rw [HRU.out, List.map_append, List.map_singleton, HF0.out, ← hw7]; exact hcm)
        rw [hw7] at hput2
        have HSET := Lib.hid (HF7.out.set (k := k) (g := fun i => if i < k + 1 then clsOf E i else 0) (v := clsOf E k) (by rw [if_pos (by omega)]) (fun i _ hne => by
          by_cases h : i < k
          · rw [if_pos h, if_pos (by omega)]
          · rw [if_neg h, if_neg (by omega)]))
        have hfz : w7.frozen? ⟨b2, k, none⟩ = false := HF7.out.frozen
        have c1 := HF7.out.cell hlt
        rw [← hes] at HSET hcl
        clear hw7 hcm HU6 HR6 HF6 HM6 HB6 hes
        have hwq : IntKind.u8.wrap (es.size : Int) = es.size := by rw [IntKind.wrap_u8]; omega
        go_wp2_with (refine wpList_load_cols n5 f HC6.out rfl _ rfl rfl ?_)
        exact ⟨⟨k + 1, rfl, hlt, Lib.hid (by simp; exact HS7.out), Lib.hid (HU7.out.other HNE.out.1 _), Lib.hid (HR7.out.other HNE.out.2.1 _), HSET, Lib.hid (cm_other HM7.out (Below.heap_setCell _ _ _ _ HNE.out.2.2.1)), Lib.hid (HB7.out.setCell HNE.out.2.2.2.2.2.2.1 _)⟩, by simp only [intOf]; omega⟩
    · obtain rfl : k = 256 := by omega
      have hd : decide (((256 : Nat) : Int) < 256) = false := by simp
      replace HF := Lib.hid (HF.out.congr (g := clsOf E) fun i hi => by rw [if_pos hi])
      go_wp2_with (first | (refine wpList_load_u8c b2 (clsOf E) HF.out rfl _ rfl rfl ?_) | (refine wpList_store_u8c b1 (fun _ => 0) (clsOf E) HR.out rfl _ _ rfl rfl rfl ?_))
      have HRES := Lib.hid (HR.out.setRow (g := clsOf E))
      have HRB := Lib.hid (below_setRow HBW.out (show B0 ≤ b1 by have := HBS.out; omega) (U8s (clsOf E)))
      generalize wr.setRow b1 (U8s (clsOf E)) = w9 at *
      exact bodyPost_ret (v := .agg (U8s (clsOf E))) (split_result HRES.out rfl) rfl ⟨rfl, HRB.out⟩
end Go.Proofs.Ytiikmpgadmmjeaa
