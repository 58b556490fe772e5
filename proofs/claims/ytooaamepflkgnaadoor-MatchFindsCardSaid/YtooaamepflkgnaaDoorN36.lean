/- Texts that a proof rests on: The reference's Texts. -/
import Derived.Test.YtooaamepflkgnaaDoorN35
import Derived.Laws.Strings
set_option maxRecDepth 100000
namespace Go.Proofs.YtooaamepflkgnaaDoor
open Go.RowKit

theorem toList_inj {x y : ByteArray} (h : x.toList = y.toList) : x = y := by
  rw [ByteArray.toList_eq, ByteArray.toList_eq] at h
  cases x; cases y
  congr
  exact Array.toList_inj.1 h
set_option linter.unusedSimpArgs false in
set_option maxHeartbeats 2000000 in
theorem rsameT_any (v u : Value) (l m : List ByteArray) (w : World) (hl : l.length < 10000) (hm : m.length < 10000) (hv : RdV w v (l.map Value.string)) (hu : RdV w u (m.map Value.string)) :
    Calls Tryd.prog 11 #[v, u] w fun e w' => e = .returned (.bool (decide (l = m))) ∧ Below w.heap.size w w' := by
  obtain ⟨a, c, rfl⟩ := hv.len
  obtain ⟨b, d, rfl⟩ := hu.len
  have mixed : Tryd.prog.follows .mixedOrders = true := by kernel_rfl
  simp only [List.length_map] at hv hu ⊢
  by_cases hlm : l.length = m.length
  · have hlb : ((l.length : Int) == m.length) = true := by simp [hlm]
    rw [← hlm] at hu ⊢
    clear hlb
    go_enter Tryd.func11, Tryd.ntmps11
    go_wp2
    go_loopw [5] (fun x wr => ∃ k : Nat, x = .int .i64 k ∧ k ≤ l.length ∧ Below w.heap.size w wr ∧ Hid (l.take k = m.take k)) (fun x _ => l.length - (intOf x).toNat)
    case atStart => exact ⟨0, rfl, Nat.zero_le _, Below.refl _ _, by rw [Hid]; simp⟩
    case round =>
      obtain ⟨k, rfl, hk, hb, HT⟩ := hrel
      by_cases hkl : k < l.length
      · obtain ⟨b1, o1, c1, e1, r1⟩ := (hv.below hb).at (i := k) (by simpa using hkl)
        obtain ⟨b2, o2, c2, e2, r2⟩ := (hu.below hb).at (i := k) (by simp; omega)
        simp only [List.length_map] at e1 e2
        cases e1
        have hkm : k < m.length := by omega
        simp only [List.getElem_map] at r1 r2
        have e2' := e2
        have HEQ : Hid ((l[k] = m[k]) ↔ l.take (k + 1) = m.take (k + 1)) := by
          rw [Hid, List.take_succ_eq_append_getElem hkl, List.take_succ_eq_append_getElem hkm, HT.out]
          simp only [List.append_cancel_left_eq, List.cons.injEq, and_true]
        have HNE : Hid (l[k] ≠ m[k] → l ≠ m) := fun h e => h (by subst e; rfl)
        generalize l[k] = x at *
        generalize m[k] = y at *
        obtain ⟨rfl, _, rfl⟩ : b = some ⟨b2, o2, none⟩ ∧ True ∧ d = c2 := by
          injection e2 with g1 g2 g3
          exact ⟨g1, trivial, g3⟩
        have f1 : wr.drew.cell? ⟨b1, o1 + k, none⟩ = some (Value.string x) := r1
        have f2 : wr.drew.cell? ⟨b2, o2 + k, none⟩ = some (Value.string y) := r2
        clear r1 r2 e2 e2'
        go_wp2
        refine region_take 9 rfl (fun W => W.cell? ⟨b1, o1 + k, none⟩ = some (Value.string x) ∧ W.cell? ⟨b2, o2 + k, none⟩ = some (Value.string y)) mixed ⟨f1, f2⟩ (fun hHeld => ?_)
        refine wpAnyH_take (i := 0) (v := ?w1) rfl (by kernel_rfl) (by kernel_rfl) (by kernel_rfl) (fun _ _ _ h => h) (Or.inl ⟨by rfl, ?gy1⟩) (by assumption) ?grest1
        case gy1 => (intro W9 hW9; obtain ⟨k0, k1⟩ := hW9; first | (go_simp; done) | (go_simp; with_reducible rfl))
        simp only [Act.put, List.getElem_toArray, List.getElem_cons_succ, List.getElem_cons_zero, List.setIfInBounds_toArray, List.set_cons_zero, List.set_cons_succ]
        refine wpAnyH_take (i := 1) (v := ?w2) rfl (by kernel_rfl) (by kernel_rfl) (by kernel_rfl) (fun _ _ _ h => h) (Or.inl ⟨by rfl, ?gy2⟩) (by assumption) ?grest2
        case gy2 => (intro W9 hW9; obtain ⟨k0, k1⟩ := hW9; first | (go_simp; done) | (go_simp; with_reducible rfl))
        simp only [Act.put, List.getElem_toArray, List.getElem_cons_succ, List.getElem_cons_zero, List.setIfInBounds_toArray, List.set_cons_zero, List.set_cons_succ]
        refine wpAnyH_take (i := 2) (v := ?w3) rfl (by kernel_rfl) (by kernel_rfl) (by kernel_rfl) (fun _ _ _ h => h) (Or.inl ⟨by rfl, ?gy3⟩) (by assumption) ?grest3
        case gy3 => (intro W9 hW9; obtain ⟨k0, k1⟩ := hW9; first | (go_simp; done) | (go_simp; with_reducible rfl))
        simp only [Act.put, List.getElem_toArray, List.getElem_cons_succ, List.getElem_cons_zero, List.setIfInBounds_toArray, List.set_cons_zero, List.set_cons_succ]
        refine wpAnyH_take (i := 3) (v := ?w4) rfl (by kernel_rfl) (by kernel_rfl) (by kernel_rfl) (fun _ _ _ h => h) (Or.inl ⟨by rfl, ?gy4⟩) (by assumption) ?grest4
        case gy4 => (intro W9 hW9; obtain ⟨k0, k1⟩ := hW9; first | (go_simp; done) | (go_simp; with_reducible rfl))
        simp only [Act.put, List.getElem_toArray, List.getElem_cons_succ, List.getElem_cons_zero, List.setIfInBounds_toArray, List.set_cons_zero, List.set_cons_succ]
        refine wpAnyH_take (i := 4) (v := ?w5) rfl (by kernel_rfl) (by kernel_rfl) (by kernel_rfl) (fun _ _ _ h => h) (Or.inl ⟨by rfl, ?gy5⟩) (by assumption) ?grest5
        case gy5 => (intro W9 hW9; obtain ⟨k0, k1⟩ := hW9; first | (go_simp; done) | (go_simp; with_reducible rfl))
        simp only [Act.put, List.getElem_toArray, List.getElem_cons_succ, List.getElem_cons_zero, List.setIfInBounds_toArray, List.set_cons_zero, List.set_cons_succ]
        refine wpAnyH_take (i := 5) (v := ?w6) rfl (by kernel_rfl) (by kernel_rfl) (by kernel_rfl) (fun _ _ _ h => h) (Or.inl ⟨by rfl, ?gy6⟩) (by assumption) ?grest6
        case gy6 => (intro W9 hW9; obtain ⟨k0, k1⟩ := hW9; first | (go_simp; done) | (go_simp; with_reducible rfl))
        simp only [Act.put, List.getElem_toArray, List.getElem_cons_succ, List.getElem_cons_zero, List.setIfInBounds_toArray, List.set_cons_zero, List.set_cons_succ]
        refine wpAnyH_take (i := 6) (v := ?w7) rfl (by kernel_rfl) (by kernel_rfl) (by kernel_rfl) (fun _ _ _ h => h) (Or.inl ⟨by rfl, ?gy7⟩) (by assumption) ?grest7
        case gy7 => (intro W9 hW9; obtain ⟨k0, k1⟩ := hW9; first | (go_simp; done) | (go_simp; with_reducible rfl))
        simp only [Act.put, List.getElem_toArray, List.getElem_cons_succ, List.getElem_cons_zero, List.setIfInBounds_toArray, List.set_cons_zero, List.set_cons_succ]
        refine wpAnyH_take (i := 7) (v := ?w8) rfl (by kernel_rfl) (by kernel_rfl) (by kernel_rfl) (fun _ _ _ h => h) (Or.inl ⟨by rfl, ?gy8⟩) (by assumption) ?grest8
        case gy8 => (intro W9 hW9; obtain ⟨k0, k1⟩ := hW9; first | (go_simp; done) | (go_simp; with_reducible rfl))
        simp only [Act.put, List.getElem_toArray, List.getElem_cons_succ, List.getElem_cons_zero, List.setIfInBounds_toArray, List.set_cons_zero, List.set_cons_succ]
        by_cases hxy : x = y
        · subst hxy
          refine wpAnyH_take (i := 8) (v := .bool false) rfl (by kernel_rfl) (by kernel_rfl) (by kernel_rfl) (fun _ _ _ h => h) (Or.inl ⟨by rfl, ?gy9⟩) (by assumption) ?grest9
          case gy9 => (intro W9 hW9; obtain ⟨k0, k1⟩ := hW9; first | (go_simp; done) | (go_simp; with_reducible rfl))
          simp only [Act.put, List.getElem_toArray, List.getElem_cons_succ, List.getElem_cons_zero, List.setIfInBounds_toArray, List.set_cons_zero, List.set_cons_succ]
          refine wpAnyH_done (by kernel_rfl) ?_ _
          go_wp2
          go_roundw
          case rel => exact ⟨k + 1, num_succ k, by omega, hb.drew, HEQ.out.1 rfl⟩
          case measure => simp [intOf]; omega
        · have hne : ¬ x.toList = y.toList := fun e => hxy (toList_inj e)
          refine wpAnyH_take (i := 8) (v := .bool true) rfl (by kernel_rfl) (by kernel_rfl) (by kernel_rfl) (fun _ _ _ h => h) (Or.inl ⟨by rfl, ?gy10⟩) (by assumption) ?grest10
          case gy10 => (intro W9 hW9; obtain ⟨k0, k1⟩ := hW9; first | (go_simp; done) | (go_simp; with_reducible rfl))
          simp only [Act.put, List.getElem_toArray, List.getElem_cons_succ, List.getElem_cons_zero, List.setIfInBounds_toArray, List.set_cons_zero, List.set_cons_succ]
          refine wpAnyH_done (by kernel_rfl) ?_ _
          go_wp2
          refine bodyPost_ret (v := .bool false) (by simp [results, Tryd.results11, go_sem, *]) rfl ⟨?_, hb.drew⟩
          have := HNE.out hxy
          simp [this]
      · obtain rfl : k = l.length := by omega
        have hlm2 : l = m := by
          have := HT.out
          rw [List.take_length, hlm, List.take_length] at this
          exact this
        have HLM := Lib.hid hlm2
        clear hlm2
        go_wp2
        refine bodyPost_ret (v := .bool true) (by simp [results, Tryd.results11, go_sem, *]) rfl ⟨by simp [HLM.out], hb⟩
  · have hlb : ((l.length : Int) == m.length) = false := by simp; omega
    have hne : l ≠ m := fun e => hlm (by rw [e])
    have HNE := Lib.hid hne
    clear hne hlm
    go_enter Tryd.func11, Tryd.ntmps11
    go_wp2
    refine bodyPost_ret (v := .bool false) (by simp [results, Tryd.results11, go_sem, *]) rfl ⟨by simp [HNE.out], Below.refl _ _⟩
end Go.Proofs.YtooaamepflkgnaaDoor
