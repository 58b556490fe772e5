/- The contract of the reference's Cut. -/
import Derived.Test.YtocllbdfdmpopaaDoorJ2
set_option maxRecDepth 100000
namespace Go.Proofs.YtocllbdfdmpopaaDoor
open Go.RowKit

/-- Bytes, cell by cell. -/
def flatB (l : List Nat) : List Value := l.map (fun n : Nat => Value.int .u8 (n : Int))
theorem flatB_snoc (l : List Nat) (n : Nat) : flatB (l ++ [n]) = flatB l ++ [.int .u8 n] := by simp [flatB]
theorem infoByte : (Tryd.prog.info? 5).map (fun i => (i.zero, i.size, i.bytes)) = some (some (.int .u8 0), 1, 1) := by kernel_rfl
/-- One byte alone. -/
def single (k : Nat) : BitVec 256 := put 0 k
theorem rwith_zero (b : Nat) (hb : b < 256) (w : World) : Calls Tryd.prog 35 #[.agg #[.int .u64 0, .int .u64 0, .int .u64 0, .int .u64 0], .int .u8 b] w fun e w' => e = .returned (.agg #[.int .u64 (wd (single b) 0), .int .u64 (wd (single b) 1), .int .u64 (wd (single b) 2), .int .u64 (wd (single b) 3)]) ∧ Below w.heap.size w w' := by
  have := rwith_any 0 b hb w
  rw [wd_zero, wd_zero, wd_zero, wd_zero] at this
  exact this
/-- Rows of two element types lie apart. -/
theorem rows_apart {w : World} {b1 b2 s1 s2 n1 n2 : Nat} {e1 e2 : TypeId} {v1 v2 : Value} {x1 x2 : List Value} (h1 : w.ownsRow b1 e1 s1 v1 n1 x1) (h2 : w.ownsRow b2 e2 s2 v2 n2 x2) (he : e1 ≠ e2) : v1.ownBlock = none ∨ v1.ownBlock ≠ v2.ownBlock := by
  rcases h1.2 with ⟨rfl, _⟩ | ⟨g, cap, cur, rfl, _, hg, _⟩
  · exact .inl rfl
  · refine .inr fun e => ?_
    rcases h2.2 with ⟨rfl, _⟩ | ⟨g2, cap2, cur2, rfl, _, hg2, _⟩
    · simp [Value.ownBlock] at e
    · obtain rfl : g = g2 := by simpa [Value.ownBlock] using e
      rw [hg] at hg2; cases hg2; exact he rfl
/-- One set of a row is stored anew. -/
theorem flatS_set (l : List (BitVec 256)) (i : Nat) (hi : i < l.length) (x : BitVec 256) : ((((flatS l).set (i * 4) (.int .u64 (wd x 0))).set (i * 4 + 1) (.int .u64 (wd x 1))).set (i * 4 + 1 + 1) (.int .u64 (wd x 2))).set (i * 4 + 1 + 1 + 1) (.int .u64 (wd x 3)) = flatS (l.set i x) := by
  induction l generalizing i with
  | nil => simp at hi
  | cons q l ih =>
    have e (q : BitVec 256) (l : List (BitVec 256)) : flatS (q :: l) = (.int .u64 (wd q 0)) :: (.int .u64 (wd q 1)) :: (.int .u64 (wd q 2)) :: (.int .u64 (wd q 3)) :: flatS l := rfl
    cases i with
    | zero => rw [List.set_cons_zero, e, e]; rfl
    | succ i =>
      rw [List.set_cons_succ, e, e, ← ih i (by simpa using hi)]
      rw [show (i + 1) * 4 = i * 4 + 1 + 1 + 1 + 1 from by omega]
      simp only [List.set_cons_succ]
/-- Which part a byte belongs to, as far as is known. -/
def Known (l : List (BitVec 256)) (k j : Nat) (v : Value) : Prop := (v = .int .i64 (-1) ∧ ∀ i (_ : i < (reps l k).length), i < j → alike l ((reps l k)[i]) k = false) ∨ ∃ i, ∃ h : i < (reps l k).length, i < j ∧ v = .int .i64 i ∧ alike l ((reps l k)[i]) k = true
theorem known_rep {l : List (BitVec 256)} {k : Nat} (h : ∀ i (_ : i < (reps l k).length), i < (reps l k).length → alike l ((reps l k)[i]) k = false) : isRep l k = true := by
  obtain ⟨r, r1, r2, r3⟩ := rep_of l k k (Nat.le_refl _)
  by_cases e : r = k
  · subst e; exact r2
  · obtain ⟨i, hi, he⟩ := List.getElem_of_mem (mem_reps.2 (⟨by omega, r2⟩ : r < k ∧ isRep l r = true))
    have := h i hi hi
    rw [he, alike_symm r3] at this; cases this
set_option maxHeartbeats 4000000 in
theorem rcut_any (v : Value) (l : List (BitVec 256)) (w : World) (hv : Sl w v l) :
    Calls Tryd.prog 30 #[v] w fun e w' => ∃ r, e = .returned r ∧ w'.ownsRow w.heap.size 24 4 r (cutL l).length (flatS (cutL l)) ∧ Below w.heap.size w w' := by
  obtain ⟨i0, hi, hz0, hz1, hz2⟩ := info_parts infoSet
  obtain ⟨j0, hj, hy0, hy1, hy2⟩ := info_parts infoByte
  have HV := Lib.hid hv
  clear hv
  go_enter Tryd.func30, Tryd.ntmps30
  go_wp2
  go_loopw [3, 4, 5, 6, 7] (fun out low b _ _ wr => ∃ k : Nat, k ≤ 256 ∧ b = .int .i64 k ∧ wr.ownsRow w.heap.size 24 4 out (cutTo l k).length (flatS (cutTo l k)) ∧ wr.ownsRow w.heap.size 5 1 low (reps l k).length (flatB (reps l k)) ∧ Below w.heap.size w wr) (fun _ _ b _ _ _ => 256 - (intOf b).toNat)
  case atStart => exact ⟨0, by omega, rfl, World.ownsRow_nil _ _ _ _, World.ownsRow_nil _ _ _ _, Below.refl _ _⟩
  case round =>
    obtain ⟨k, hk, rfl, hout, hlow, hbw⟩ := hrel
    by_cases hlt : k < 256
    · have hd : decide ((k : Int) < 256) = true := decide_eq_true (by omega)
      have hlr := reps_length l k
      have hout' := hout
      rw [cutTo_length] at hout'
      obtain ⟨ad1, cap1, rfl⟩ := row_form hout'
      obtain ⟨ad2, cap2, rfl⟩ := row_form hlow
      clear hout'
      obtain ⟨wo, hwo⟩ : ∃ wo : World, wo = wr := ⟨_, rfl⟩
      rw [← hwo] at hout hlow hbw ⊢
      clear hwo
      go_wp2
      go_loopw [6, 7] (fun kv i wr => ∃ j : Nat, j ≤ (reps l k).length ∧ i = .int .i64 j ∧ Known l k j kv ∧ wr.ownsRow w.heap.size 24 4 (.slice ad1 (reps l k).length cap1) (cutTo l k).length (flatS (cutTo l k)) ∧ wr.ownsRow w.heap.size 5 1 (.slice ad2 (reps l k).length cap2) (reps l k).length (flatB (reps l k)) ∧ Below w.heap.size w wr) (fun _ i _ => (reps l k).length - (intOf i).toNat)
      case atStart => exact ⟨0, by omega, rfl, .inl ⟨rfl, fun i _ h => by omega⟩, hout, hlow, hbw⟩
      case round =>
        obtain ⟨j, hj', rfl, hkn, hout, hlow, hbw⟩ := hrel
        by_cases hlt2 : j < (reps l k).length
        · obtain ⟨m, hm⟩ : ∃ m, (reps l k).length = m + 1 := ⟨(reps l k).length - 1, by omega⟩
          have hlow' := hlow
          rw [hm] at hlow'
          obtain ⟨g, cap', hg, hg1, hg2⟩ := row_some hlow'
          simp only [Value.slice.injEq] at hg
          obtain ⟨rfl, _, rfl⟩ := hg
          clear hlow' hm
          have hc : wr.cell? ⟨g, j, none⟩ = some (.int .u8 (reps l k)[j]) := by rw [hlow.cellAt j (by omega)]; simp [flatB, hlt2]
          have hr := (mem_reps.1 (List.getElem_mem hlt2)).1
          have HR : Hid (alike l ((reps l k)[j]) k = true → Known l k (j + 1) (.int .i64 j)) := fun h => .inr ⟨j, hlt2, by omega, rfl, h⟩
          have HN : Hid (alike l ((reps l k)[j]) k = false → ∀ kv, Known l k j kv → Known l k (j + 1) kv) := fun h kv hkv => by
            rcases hkv with ⟨e, h2⟩ | ⟨i, h1, h2, h3, h4⟩
            · refine .inl ⟨e, fun i hi h3 => ?_⟩
              by_cases e : i = j
              · subst e; exact h
              · exact h2 i hi (by omega)
            · exact .inr ⟨i, h1, by omega, h3, h4⟩
          generalize (reps l k)[j] = r at *
          have hv := HV.out.below hbw
          cases hal : alike l r k
          · have HA := Lib.hid hal
            have HK := Lib.hid (HN.out hal _ hkn)
            clear hal hkn HR HN
            go_wp2_with (go_at_call 38; refine (alike_any v l r k (by omega) hlt _ hv).mono ?_; rw [HA.out]; rintro e w2 ⟨rfl, hb2⟩)
            go_roundw
            case rel => exact ⟨j + 1, by omega, num_succ j, HK.out, row_below hout hb2, row_below hlow hb2, hbw.trans (hb2.mono hbw.size)⟩
            case measure => simp [intOf]; omega
          · have HA := Lib.hid hal
            have HK := Lib.hid (HR.out hal)
            clear hal hkn HR HN
            go_wp2_with (go_at_call 38; refine (alike_any v l r k (by omega) hlt _ hv).mono ?_; rw [HA.out]; rintro e w2 ⟨rfl, hb2⟩)
            go_roundw
            case rel => exact ⟨j + 1, by omega, num_succ j, HK.out, row_below hout hb2, row_below hlow hb2, hbw.trans (hb2.mono hbw.size)⟩
            case measure => simp [intOf]; omega
        · obtain rfl : j = (reps l k).length := by omega
          rcases hkn with ⟨rfl, hno⟩ | ⟨i, hi1, _, rfl, hal⟩
          · obtain ⟨m1, m2⟩ := cutTo_new l k hlt (known_rep hno)
            have M1 := Lib.hid m1
            have M2 : Hid (cutTo l (k + 1) = cutTo l k ++ [single k]) := m2
            have hcl := cutTo_length l k
            have HCL := Lib.hid hcl
            rw [hcl] at hout
            clear m1 m2 hno hcl
            have hbs := hbw.size
            go_wp2_with (first
              | (go_at_call 35; refine (rwith_zero k hlt _).mono ?_; rintro e w3 ⟨rfl, hb3⟩; have hbs3 := hb3.size)
              | (at_builtin; refine wpList_append_own _ rfl _ _ 38 rfl w.heap.size 24 i0 (.agg #[.int .u64 0, .int .u64 0, .int .u64 0, .int .u64 0]) 4 32 Tryd.underlying38 hi hz0 hz1 hz2 rfl (by decide) _ _ _ rfl ((row_below hout hb3).alloc _) ⟨w3.heap.size, 0, none⟩ 1 1 [.int .u64 (wd (single k) 0), .int .u64 (wd (single k) 1), .int .u64 (wd (single k) 2), .int .u64 (wd (single k) 3)] rfl rfl (cell_four_new _ _ _ _ _ _) (by simp [Value.oneCell']) (by unfold maxLen; omega) (by omega) (by simp; omega) ?_; intro v' w4 hown' hgrow _; have hlow4 := ((row_below hlow hb3).alloc (.cells #[.int .u64 (wd (single k) 0), .int .u64 (wd (single k) 1), .int .u64 (wd (single k) 2), .int .u64 (wd (single k) 3)] 24)).kept hgrow (rows_apart hlow hout (by decide)); have hbs4 := hgrow.size)
              | (at_builtin; refine wpList_append_own _ rfl _ _ 54 rfl w.heap.size 5 j0 (.int .u8 0) 1 1 Tryd.underlying54 hj hy0 hy1 hy2 rfl (by decide) _ _ _ rfl (hlow4.alloc _) ⟨w4.heap.size, 0, none⟩ 1 1 [.int .u8 k] rfl rfl (cell_one_new _ _ _) (by simp [Value.oneCell']) (by unfold maxLen; omega) (by omega) (by simp at hbs4; simp; omega) ?_; intro v2 w5 hown2 hgrow2 _))
            go_roundw
            case rel =>
              have hout5 := (hown'.alloc (.cells #[.int .u8 k] 5)).kept hgrow2 (rows_apart hown' hlow4 (by decide))
              have hb4 := ((hbw.trans (hb3.mono hbw.size)).alloc (by omega) (.cells #[.int .u64 (wd (single k) 0), .int .u64 (wd (single k) 1), .int .u64 (wd (single k) 2), .int .u64 (wd (single k) 3)] 24)).grown hgrow (by simp; omega) (fun q eq => (hout.lt q eq).1)
              have hb5 := (hb4.alloc hb4.size (.cells #[.int .u8 k] 5)).grown hgrow2 (by have := hb4.size; simp; omega) (fun q eq => (hlow4.lt q eq).1)
              refine ⟨k + 1, by omega, num_succ k, ?_, ?_, hb5⟩
              · rw [M2.out, flatS_snoc, List.length_append, HCL.out]; exact hout5
              · rw [M1.out, flatB_snoc, List.length_append]; exact hown2
            case measure => simp [intOf]; omega
          · obtain ⟨m1, m2⟩ := cutTo_old l k i hlt hi1 hal
            have hcl := cutTo_length l k
            have hic : i < (cutTo l k).length := by omega
            have M1 := Lib.hid m1
            have M2 : Hid (cutTo l (k + 1) = (cutTo l k).set i (put (cutTo l k)[i] k)) := m2
            have HCL := Lib.hid hcl
            obtain ⟨m, hm⟩ : ∃ m, (reps l k).length = m + 1 := ⟨(reps l k).length - 1, by omega⟩
            have hout' := hout
            rw [hcl, hm] at hout'
            obtain ⟨g, cap', hg, hg1, hg2⟩ := row_some hout'
            simp only [Value.slice.injEq] at hg
            obtain ⟨rfl, _, rfl⟩ := hg
            clear hout' hm m1 m2 hal
            rw [hcl] at hout
            have HF : Hid (((((flatS (cutTo l k)).set (i * 4) (.int .u64 (wd (put (cutTo l k)[i] k) 0))).set (i * 4 + 1) (.int .u64 (wd (put (cutTo l k)[i] k) 1))).set (i * 4 + 1 + 1) (.int .u64 (wd (put (cutTo l k)[i] k) 2))).set (i * 4 + 1 + 1 + 1) (.int .u64 (wd (put (cutTo l k)[i] k) 3)) = flatS (cutTo l (k + 1))) := by rw [Hid, M2.out]; exact flatS_set _ _ hic _
            have p0 : wr.cell? ⟨g, i * 4, none⟩ = some (.int .u64 (wd (cutTo l k)[i] 0)) := by rw [hout.cellAt _ (by omega)]; exact flatS_at _ i hic 0 (by omega)
            have p1 : wr.cell? ⟨g, i * 4 + 1, none⟩ = some (.int .u64 (wd (cutTo l k)[i] 1)) := by rw [hout.cellAt _ (by omega)]; exact flatS_at _ i hic 1 (by omega)
            have p2 : wr.cell? ⟨g, i * 4 + 1 + 1, none⟩ = some (.int .u64 (wd (cutTo l k)[i] 2)) := by rw [hout.cellAt _ (by omega)]; exact flatS_at _ i hic 2 (by omega)
            have p3 : wr.cell? ⟨g, i * 4 + 1 + 1 + 1, none⟩ = some (.int .u64 (wd (cutTo l k)[i] 3)) := by rw [hout.cellAt _ (by omega)]; exact flatS_at _ i hic 3 (by omega)
            generalize (cutTo l k)[i] = x at *
            clear hcl hic M2
            go_wp2_with (go_at_call 35; refine (rwith_any x k hlt _).mono ?_; rintro e w3 ⟨rfl, hb3⟩; have hout3 := row_below hout hb3; have f0 := hout3.frozenAt (i * 4); have f1 := hout3.frozenAt (i * 4 + 1); have f2 := hout3.frozenAt (i * 4 + 1 + 1); have f3 := hout3.frozenAt (i * 4 + 1 + 1 + 1); have r0 := (hb3.cell (p := ⟨g, i * 4, none⟩) hg2).trans p0; have r1 := (hb3.cell (p := ⟨g, i * 4 + 1, none⟩) hg2).trans p1; have r2 := (hb3.cell (p := ⟨g, i * 4 + 1 + 1, none⟩) hg2).trans p2; have r3 := (hb3.cell (p := ⟨g, i * 4 + 1 + 1 + 1, none⟩) hg2).trans p3)
            go_roundw
            case rel =>
              obtain ⟨s0, t0⟩ := hout3.stored (i * 4) (.int .u64 (wd (put x k) 0))
              obtain ⟨s1, t1⟩ := s0.stored (i * 4 + 1) (.int .u64 (wd (put x k) 1))
              obtain ⟨s2, t2⟩ := s1.stored (i * 4 + 1 + 1) (.int .u64 (wd (put x k) 2))
              obtain ⟨s3, t3⟩ := s2.stored (i * 4 + 1 + 1 + 1) (.int .u64 (wd (put x k) 3))
              rw [HF.out] at s3
              have ap := rows_apart hlow hout (by decide)
              have hl3 := (((((row_below hlow hb3).kept t0 ap).kept t1 ap).kept t2 ap).kept t3 ap)
              have hg1' : w.heap.size ≤ g := hg1
              refine ⟨k + 1, by omega, num_succ k, ?_, ?_, ?_⟩
              · rw [cutTo_length, M1.out]; exact s3
              · rw [M1.out]; exact hl3
              · exact (((((hbw.trans (hb3.mono hbw.size)).setCell (p := ⟨g, _, none⟩) hg1' _).setCell (p := ⟨g, _, none⟩) hg1' _).setCell (p := ⟨g, _, none⟩) hg1' _).setCell (p := ⟨g, _, none⟩) hg1' _)
            case measure => simp [intOf]; omega
    · obtain rfl : k = 256 := by omega
      rw [cutTo_end] at hout
      go_wp2
      go_ret
      exact ⟨_, rfl, hout, hbw⟩
end Go.Proofs.YtocllbdfdmpopaaDoor
