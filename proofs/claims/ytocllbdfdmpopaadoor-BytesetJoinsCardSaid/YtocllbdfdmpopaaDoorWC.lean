/- The contract of Cut. -/
import Derived.Test.YtocllbdfdmpopaaDoorC
import Derived.Test.YtocllbdfdmpopaaDoorE
import Derived.Test.YtocllbdfdmpopaaDoorW9
import Derived.Deep.RegionWith
set_option maxRecDepth 20000
namespace Go.Proofs.YtocllbdfdmpopaaDoor
open Go.RowKit

/-- Sets, cell by cell. -/
def flatS (l : List (BitVec 256)) : List Value := l.flatMap (fun s => [.int .u64 (wd s 0), .int .u64 (wd s 1), .int .u64 (wd s 2), .int .u64 (wd s 3)])
theorem flatS_snoc (l : List (BitVec 256)) (s : BitVec 256) : flatS (l ++ [s]) = flatS l ++ [.int .u64 (wd s 0), .int .u64 (wd s 1), .int .u64 (wd s 2), .int .u64 (wd s 3)] := by simp [flatS]
theorem flatS_length (l : List (BitVec 256)) : (flatS l).length = l.length * 4 := by
  induction l with
  | nil => rfl
  | cons q l ih => simp [flatS] at ih ⊢; omega
theorem flatS_at (l : List (BitVec 256)) : ∀ i (_ : i < l.length), ∀ j, j < 4 → (flatS l)[i * 4 + j]? = some (.int .u64 (wd l[i] j)) := by
  induction l with
  | nil => intro i hi; simp at hi
  | cons q l ih =>
    intro i hi j hj
    have e : flatS (q :: l) = [.int .u64 (wd q 0), .int .u64 (wd q 1), .int .u64 (wd q 2), .int .u64 (wd q 3)] ++ flatS l := rfl
    cases i with
    | zero =>
      rw [e]
      match j, hj with
      | 0, _ => rfl
      | 1, _ => rfl
      | 2, _ => rfl
      | 3, _ => rfl
    | succ i =>
      have := ih i (by simpa using hi) j hj
      rw [e, show (i + 1) * 4 + j = (i * 4 + j) + 4 from by omega]
      simpa using this
theorem sl_of_row {w : World} {base : Nat} {v : Value} {l : List (BitVec 256)} (hl : l.length ≤ maxLen) (h : w.ownsRow base 24 4 v l.length (flatS l)) : Sl w v l := by
  refine ⟨hl, ?_⟩
  rcases h.2 with ⟨rfl, h0⟩ | ⟨g, cap, cur, rfl, hg, hgb, h1, h2, h3, h4⟩
  · exact .inl ⟨List.eq_nil_of_length_eq_zero h0, _, _, rfl⟩
  · refine .inr ⟨g, 0, cap, rfl, (Array.getElem?_eq_some_iff.1 hgb).1, fun i hi j hj => ?_⟩
    rw [Nat.zero_add, h.cellAt _ (by omega)]
    exact flatS_at l i hi j hj
theorem infoSet : (Tryd.prog.info? 24).map (fun i => (i.zero, i.size, i.bytes)) = some (some (.agg #[.int .u64 0, .int .u64 0, .int .u64 0, .int .u64 0]), 4, 32) := by kernel_rfl
theorem cell_four_new (w : World) (a b c d : Value) (t : TypeId) : ∀ j u, [a, b, c, d][j]? = some u → (w.alloc (.cells #[a, b, c, d] t)).cell? ((⟨w.heap.size, 0, none⟩ : Addr).add j) = some u := by
  intro j u hj
  match j, hj with
  | 0, hj => simp at hj; subst hj; simp [Addr.add]
  | 1, hj => simp at hj; subst hj; simp [Addr.add]
  | 2, hj => simp at hj; subst hj; simp [Addr.add]
  | 3, hj => simp at hj; subst hj; simp [Addr.add]
/-- How many elements a slice has. -/
def lenOf (v : Value) : Nat := match v with | .slice _ n _ => n | _ => 0
set_option maxHeartbeats 2000000 in
theorem cut_any (v : Value) (l : List (BitVec 256)) (w : World) (hT : Tab w) (hv : Sl w v l) :
    Calls Tryd.prog 29 #[v] w fun e w' => ∃ r, e = .returned r ∧ w'.ownsRow w.heap.size 24 4 r (cutL l).length (flatS (cutL l)) ∧ Below w.heap.size w w' := by
  obtain ⟨i0, hi, hz0, hz1, hz2⟩ := info_parts infoSet
  go_enter Tryd.func29, Tryd.ntmps29
  go_wp2_with (go_at_call 18; refine (not_zero _).mono ?_; rintro e w1 ⟨rfl, hb1⟩)
  have hsz := hb1.size
  go_loopw [3] (fun r wr => ∃ p : Nat, p ≤ 256 ∧ Hid (fst (rem l p) 0 = p) ∧ wr.ownsRow (w1.heap.size + 1) 24 4 r (reps l p).length (flatS ((reps l p).map (cls l))) ∧ SetAt wr w1.heap.size (rem l p) ∧ Below w.heap.size w wr) (fun r _ => 257 - lenOf r)
  case atStart =>
    refine ⟨0, by omega, ?_, World.ownsRow_nil _ _ _ _, by rw [rem_zero]; exact SetAt.new _ _, hb1.alloc hb1.size _⟩
    rw [Hid, rem_zero]
    exact fst_at (by omega) (get_full 0 (by omega))
  case round =>
    obtain ⟨p, hp, HF, hrow, hs, hbw⟩ := hrel
    have hls := hs.lt
    have hlen := reps_length l p
    obtain ⟨c0, c1, c2, c3⟩ := hs.cells
    by_cases hzero : rem l p = 0
    · have hq := eq_zero (rem l p)
      have hd : decide (rem l p = 0) = true := by simp [hzero]
      rw [hd] at hq
      obtain rfl := rem_none HF.out hzero
      clear hzero hd
      go_wp2
      go_ret
      refine ⟨_, rfl, ?_, hbw⟩
      unfold cutL
      rw [List.length_map]
      refine ⟨hrow.1, ?_⟩
      rcases hrow.2 with h | ⟨g, c, cur, h1, h2, h3⟩
      · exact .inl h
      · exact .inr ⟨g, c, cur, h1, by omega, h3⟩
    · have hq := eq_zero (rem l p)
      have hd : decide (rem l p = 0) = false := decide_eq_false hzero
      rw [hd] at hq
      have hp2 := rem_some HF.out hzero
      obtain ⟨m1, m2, m3, m4, m5⟩ := rem_first HF.out hp2
      clear hzero hd
      obtain ⟨R, hR⟩ : ∃ R, rem l p = R := ⟨_, rfl⟩
      rw [hR] at hs c0 c1 c2 c3 hq m2
      have HF' : Hid (fstV (fst R 0) = .tuple #[.int .u8 p, .bool true]) := by rw [Hid, ← hR, HF.out, fstV_in hp2]
      have M2 := Lib.hid m2; have M4 := Lib.hid m4; have M5 := Lib.hid m5
      clear m1 m2 m4 m5 hR HF
      obtain ⟨a, cap, rfl⟩ := row_form hrow
      have hT1 := hT.lower hbw hT.1
      have hv1 := hv.below hbw
      go_wp2_with (first
        | (go_at_call 9; refine (first_nat R 0 0 (.inr rfl) (by omega) _ hT1).mono ?_; rw [HF'.out]; rintro e w2 ⟨rfl, hb2⟩; have hv2 := hv1.below hb2; have hs2 := hs.grown hb2; have hrow2 := row_below hrow hb2)
        | (go_at_call 37; refine (blockOf_any v l p hp2 _ hv2).mono ?_; rintro e w3 ⟨rfl, hb3⟩; have hs3 := hs2.grown hb3; have hrow3 := row_below hrow2 hb3; have hls3 := hs3.lt)
        | (at_builtin; refine wpList_append_own _ rfl _ _ 38 rfl (w1.heap.size + 1) 24 i0 (.agg #[.int .u64 0, .int .u64 0, .int .u64 0, .int .u64 0]) 4 32 Tryd.underlying38 hi hz0 hz1 hz2 rfl (by decide) _ _ _ rfl ((hrow3.alloc _).alloc _) ⟨w3.heap.size + 1, 0, none⟩ 1 1 [.int .u64 (wd (cls l p) 0), .int .u64 (wd (cls l p) 1), .int .u64 (wd (cls l p) 2), .int .u64 (wd (cls l p) 3)] rfl rfl (by simpa using cell_four_new (w3.alloc _) _ _ _ _ _) (by simp [Value.oneCell']) (by unfold maxLen; omega) (by omega) (by simp; omega) ?_; intro v' w4 hown' hgrow _))
      have hs4 : SetAt w4 w1.heap.size R := setAt_grown ((hs3.alloc _).alloc _) hgrow (own_ne hrow (by omega))
      have hc4 : SetAt w4 w3.heap.size (cls l p) := setAt_grown ((SetAt.new w3 _).alloc _) hgrow (fun e => by have := (hrow3.lt _ e).2; omega)
      have hb4 : Below w.heap.size w w4 := by
        have h1 := hbw.trans (hb2.mono hbw.size)
        have h2 := h1.trans (hb3.mono h1.size)
        have h3 := (h2.alloc h2.size (.cells #[.int .u64 (wd (cls l p) 0), .int .u64 (wd (cls l p) 1), .int .u64 (wd (cls l p) 2), .int .u64 (wd (cls l p) 3)] 24))
        have h4 := (h3.alloc h3.size (.cells #[.int .u64 (wd (cls l p) 0), .int .u64 (wd (cls l p) 1), .int .u64 (wd (cls l p) 2), .int .u64 (wd (cls l p) 3)] 24))
        exact h4.grown hgrow h4.size (fun j ej => by have := (hrow.lt j ej).1; omega)
      have hls4 := hs4.lt
      have hlc4 := hc4.lt
      clear hb2 hb3 hs2 hs3 hs hrow hrow2 hrow3 hgrow hbw c0 c1 c2 c3 hq HF' hv2 hT1 hv1
      obtain ⟨c0, c1, c2, c3⟩ := hs4.cells
      obtain ⟨d0, d1, d2, d3⟩ := hc4.cells
      go_region_with (first
        | (go_at_call 18; refine (not_any (cls l p) _).mono ?_; rintro e w5 ⟨rfl, hb5⟩; have hs5 := (show SetAt w4.drew _ _ from hs4).grown hb5; obtain ⟨e0, e1, e2, e3⟩ := hs5.cells)
        | (go_at_call 26; refine (inter_pair R (~~~(cls l p)) _ _ (by simp)).mono ?_; rintro e w6 ⟨rfl, hb6⟩; have hs6 := hs5.grown hb6; obtain ⟨e0, e1, e2, e3⟩ := hs6.cells; obtain ⟨g0, g1, g2, g3⟩ := hs6.free))
      all_goals
        have hb46 : Below w4.heap.size w4 w6 := ((Below.refl w4.heap.size w4).drew.trans hb5).trans (hb6.mono hb5.size)
        have hrow6 := row_below hown' hb46
        have hr7 := ownsRow_setCell_below (ownsRow_setCell_below (ownsRow_setCell_below (ownsRow_setCell_below hrow6 (a := ⟨w1.heap.size, 0, none⟩) (Nat.lt_succ_self _) (.int .u64 (wd (R &&& ~~~(cls l p)) 0))) (a := ⟨w1.heap.size, 1, none⟩) (Nat.lt_succ_self _) (.int .u64 (wd (R &&& ~~~(cls l p)) 1))) (a := ⟨w1.heap.size, 2, none⟩) (Nat.lt_succ_self _) (.int .u64 (wd (R &&& ~~~(cls l p)) 2))) (a := ⟨w1.heap.size, 3, none⟩) (Nat.lt_succ_self _) (.int .u64 (wd (R &&& ~~~(cls l p)) 3))
        have hb7 := below_set4 (b := w1.heap.size) (hb4.trans (hb46.mono hb4.size)) (by omega) (.int .u64 (wd (R &&& ~~~(cls l p)) 0)) (.int .u64 (wd (R &&& ~~~(cls l p)) 1)) (.int .u64 (wd (R &&& ~~~(cls l p)) 2)) (.int .u64 (wd (R &&& ~~~(cls l p)) 3))
        have hs7 := hs6.store (R &&& ~~~(cls l p))
        have HL : Hid (lenOf v' = (reps l p).length + 1) := by obtain ⟨a', cap', e⟩ := row_form hown'; rw [e]; rfl
        go_wp2
        go_roundw
        case rel =>
          refine ⟨fst (rem l (p + 1)) 0, fst_le _ _, by rw [Hid, M5.out], ?_, by rw [M5.out, M2.out]; exact hs7, hb7⟩
          rw [M4.out, List.map_append, List.map_cons, List.map_nil, flatS_snoc, List.length_append]
          exact hr7
        case measure =>
          show 257 - lenOf v' < 257 - lenOf (.slice a (reps l p).length cap)
          rw [HL.out]
          show _ < 257 - (reps l p).length
          omega
end Go.Proofs.YtocllbdfdmpopaaDoor
