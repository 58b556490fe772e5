/- Texts that a proof rests on: The reference's Same and Texts. -/
import Derived.Test.YtpfhhdiipedklaaDoorK15
import Derived.Test.YtpfhhdiipedklaaDoorK06
import Derived.Deep.RegionHeld3
import Derived.OrdersHeld
set_option maxRecDepth 100000
namespace Go.Proofs.YtpfhhdiipedklaaDoor
open Go.RowKit

/-- A slice reads as values. -/
def RdV (w : World) (v : Value) (l : List Value) : Prop := (v = .slice none 0 0 ∧ l = []) ∨ ∃ b o c, v = .slice (some ⟨b, o, none⟩) l.length c ∧ ∀ i (h : i < l.length), w.cell? ⟨b, o + i, none⟩ = some l[i]
theorem RdV.len {w : World} {v : Value} {l : List Value} (h : RdV w v l) : ∃ a c, v = .slice a l.length c := by
  rcases h with ⟨rfl, rfl⟩ | ⟨b, o, c, rfl, _⟩
  · exact ⟨_, _, rfl⟩
  · exact ⟨_, _, rfl⟩
theorem RdV.at {w : World} {v : Value} {l : List Value} (h : RdV w v l) {i : Nat} (hi : i < l.length) : ∃ b o c, v = .slice (some ⟨b, o, none⟩) l.length c ∧ w.cell? ⟨b, o + i, none⟩ = some l[i] := by
  rcases h with ⟨_, rfl⟩ | ⟨b, o, c, e, hr⟩
  · simp at hi
  · exact ⟨b, o, c, e, hr i hi⟩
theorem RdV.below {w w' : World} {v : Value} {l : List Value} (h : RdV w v l) (hb : Below w.heap.size w w') : RdV w' v l := by
  rcases h with h | ⟨b, o, c, e, hr⟩
  · exact .inl h
  · exact .inr ⟨b, o, c, e, fun i hi => cell_below hb (hr i hi)⟩
theorem region_take {P : Program} {Q : Exit → Act → World → Prop} {id : Nat} {ops : List Oper} {a : Act} {w : World} (N : Nat) (hN : ops.length = N) (S : World → Prop) (hm : P.follows .mixedOrders = true) (hS : S w.drew)
    (h : S w.drew → wpAnyH P .any ops.toArray Q S N (Array.replicate N false) a w.drew) : (Code.region id ops.toArray true).wp P Q a w := by
  subst hN
  exact wp_region_held_drew (S := S) hm hS (by simpa using h)
set_option linter.unusedSimpArgs false in
set_option maxHeartbeats 2000000 in
theorem rsameI_any (v u : Value) (l m : List Int) (w : World) (hl : l.length < 10000) (hm : m.length < 10000) (hv : RdV w v (l.map (Value.int .i64))) (hu : RdV w u (m.map (Value.int .i64))) :
    Calls Tryd.prog 10 #[v, u] w fun e w' => e = .returned (.bool (decide (l = m))) ∧ Below w.heap.size w w' := by
  obtain ⟨a, c, rfl⟩ := hv.len
  obtain ⟨b, d, rfl⟩ := hu.len
  have mixed : Tryd.prog.follows .mixedOrders = true := by kernel_rfl
  simp only [List.length_map] at hv hu ⊢
  by_cases hlm : l.length = m.length
  · have hlb : ((l.length : Int) == m.length) = true := by simp [hlm]
    rw [← hlm] at hu ⊢
    clear hlb
    go_enter Tryd.func10, Tryd.ntmps10
    go_wp2
    go_loopw [5] (fun x wr => ∃ k : Nat, x = .int .i64 k ∧ k ≤ l.length ∧ Below w.heap.size w wr ∧ Hid (l.take k = m.take k)) (fun x _ => l.length - (intOf x).toNat)
    case atStart => exact ⟨0, rfl, Nat.zero_le _, Below.refl _ _, by rw [Hid]; simp⟩
    case round =>
      obtain ⟨k, rfl, hk, hb, HT⟩ := hrel
      by_cases hkl : k < l.length
      · obtain ⟨b1, o1, c1, e1, r1⟩ := (hv.below hb).at (i := k) (by simpa using hkl)
        obtain ⟨b2, o2, c2, e2, r2⟩ := (hu.below hb).at (i := k) (by simp; omega)
        simp only [List.length_map] at e1 e2
        cases e1
        have hkm : k < m.length := by omega
        simp only [List.getElem_map] at r1 r2
        have e2' := e2
        have HEQ : Hid ((l[k] = m[k]) ↔ l.take (k + 1) = m.take (k + 1)) := by
          rw [Hid, List.take_succ_eq_append_getElem hkl, List.take_succ_eq_append_getElem hkm, HT.out]
          simp only [List.append_cancel_left_eq, List.cons.injEq, and_true]
        have HNE : Hid (l[k] ≠ m[k] → l ≠ m) := fun h e => h (by subst e; rfl)
        generalize l[k] = x at *
        generalize m[k] = y at *
        obtain ⟨rfl, _, rfl⟩ : b = some ⟨b2, o2, none⟩ ∧ True ∧ d = c2 := by
          injection e2 with g1 g2 g3
          exact ⟨g1, trivial, g3⟩
        have f1 : wr.drew.cell? ⟨b1, o1 + k, none⟩ = some ((Value.int .i64) x) := r1
        have f2 : wr.drew.cell? ⟨b2, o2 + k, none⟩ = some ((Value.int .i64) y) := r2
        clear r1 r2 e2 e2'
        go_wp2
        refine region_take 9 rfl (fun W => W.cell? ⟨b1, o1 + k, none⟩ = some ((Value.int .i64) x) ∧ W.cell? ⟨b2, o2 + k, none⟩ = some ((Value.int .i64) y)) mixed ⟨f1, f2⟩ (fun hHeld => ?_)
        refine wpAnyH_take (i := 0) (v := ?v1) rfl (by kernel_rfl) (by kernel_rfl) (by kernel_rfl) (fun _ _ _ h => h) (Or.inl ⟨by rfl, ?hy1⟩) (by assumption) ?rest1
        case hy1 => (intro W9 hW9; obtain ⟨k0, k1⟩ := hW9; first | (go_simp; done) | (go_simp; with_reducible rfl))
        simp only [Act.put, List.getElem_toArray, List.getElem_cons_succ, List.getElem_cons_zero, List.setIfInBounds_toArray, List.set_cons_zero, List.set_cons_succ]
        refine wpAnyH_take (i := 1) (v := ?v2) rfl (by kernel_rfl) (by kernel_rfl) (by kernel_rfl) (fun _ _ _ h => h) (Or.inl ⟨by rfl, ?hy2⟩) (by assumption) ?rest2
        case hy2 => (intro W9 hW9; obtain ⟨k0, k1⟩ := hW9; first | (go_simp; done) | (go_simp; with_reducible rfl))
        simp only [Act.put, List.getElem_toArray, List.getElem_cons_succ, List.getElem_cons_zero, List.setIfInBounds_toArray, List.set_cons_zero, List.set_cons_succ]
        refine wpAnyH_take (i := 2) (v := ?v3) rfl (by kernel_rfl) (by kernel_rfl) (by kernel_rfl) (fun _ _ _ h => h) (Or.inl ⟨by rfl, ?hy3⟩) (by assumption) ?rest3
        case hy3 => (intro W9 hW9; obtain ⟨k0, k1⟩ := hW9; first | (go_simp; done) | (go_simp; with_reducible rfl))
        simp only [Act.put, List.getElem_toArray, List.getElem_cons_succ, List.getElem_cons_zero, List.setIfInBounds_toArray, List.set_cons_zero, List.set_cons_succ]
        refine wpAnyH_take (i := 3) (v := ?v4) rfl (by kernel_rfl) (by kernel_rfl) (by kernel_rfl) (fun _ _ _ h => h) (Or.inl ⟨by rfl, ?hy4⟩) (by assumption) ?rest4
        case hy4 => (intro W9 hW9; obtain ⟨k0, k1⟩ := hW9; first | (go_simp; done) | (go_simp; with_reducible rfl))
        simp only [Act.put, List.getElem_toArray, List.getElem_cons_succ, List.getElem_cons_zero, List.setIfInBounds_toArray, List.set_cons_zero, List.set_cons_succ]
        refine wpAnyH_take (i := 4) (v := ?v5) rfl (by kernel_rfl) (by kernel_rfl) (by kernel_rfl) (fun _ _ _ h => h) (Or.inl ⟨by rfl, ?hy5⟩) (by assumption) ?rest5
        case hy5 => (intro W9 hW9; obtain ⟨k0, k1⟩ := hW9; first | (go_simp; done) | (go_simp; with_reducible rfl))
        simp only [Act.put, List.getElem_toArray, List.getElem_cons_succ, List.getElem_cons_zero, List.setIfInBounds_toArray, List.set_cons_zero, List.set_cons_succ]
        refine wpAnyH_take (i := 5) (v := ?v6) rfl (by kernel_rfl) (by kernel_rfl) (by kernel_rfl) (fun _ _ _ h => h) (Or.inl ⟨by rfl, ?hy6⟩) (by assumption) ?rest6
        case hy6 => (intro W9 hW9; obtain ⟨k0, k1⟩ := hW9; first | (go_simp; done) | (go_simp; with_reducible rfl))
        simp only [Act.put, List.getElem_toArray, List.getElem_cons_succ, List.getElem_cons_zero, List.setIfInBounds_toArray, List.set_cons_zero, List.set_cons_succ]
        refine wpAnyH_take (i := 6) (v := ?v7) rfl (by kernel_rfl) (by kernel_rfl) (by kernel_rfl) (fun _ _ _ h => h) (Or.inl ⟨by rfl, ?hy7⟩) (by assumption) ?rest7
        case hy7 => (intro W9 hW9; obtain ⟨k0, k1⟩ := hW9; first | (go_simp; done) | (go_simp; with_reducible rfl))
        simp only [Act.put, List.getElem_toArray, List.getElem_cons_succ, List.getElem_cons_zero, List.setIfInBounds_toArray, List.set_cons_zero, List.set_cons_succ]
        refine wpAnyH_take (i := 7) (v := ?v8) rfl (by kernel_rfl) (by kernel_rfl) (by kernel_rfl) (fun _ _ _ h => h) (Or.inl ⟨by rfl, ?hy8⟩) (by assumption) ?rest8
        case hy8 => (intro W9 hW9; obtain ⟨k0, k1⟩ := hW9; first | (go_simp; done) | (go_simp; with_reducible rfl))
        simp only [Act.put, List.getElem_toArray, List.getElem_cons_succ, List.getElem_cons_zero, List.setIfInBounds_toArray, List.set_cons_zero, List.set_cons_succ]
        by_cases hxy : x = y
        · subst hxy
          refine wpAnyH_take (i := 8) (v := .bool false) rfl (by kernel_rfl) (by kernel_rfl) (by kernel_rfl) (fun _ _ _ h => h) (Or.inl ⟨by rfl, ?hy9⟩) (by assumption) ?rest9
          case hy9 => (intro W9 hW9; obtain ⟨k0, k1⟩ := hW9; first | (go_simp; done) | (go_simp; with_reducible rfl))
          simp only [Act.put, List.getElem_toArray, List.getElem_cons_succ, List.getElem_cons_zero, List.setIfInBounds_toArray, List.set_cons_zero, List.set_cons_succ]
          refine wpAnyH_done (by kernel_rfl) ?_ _
          go_wp2
          go_roundw
          case rel => exact ⟨k + 1, num_succ k, by omega, hb.drew, HEQ.out.1 rfl⟩
          case measure => simp [intOf]; omega
        · have hne : (x == y) = false := by simpa using hxy
          refine wpAnyH_take (i := 8) (v := .bool true) rfl (by kernel_rfl) (by kernel_rfl) (by kernel_rfl) (fun _ _ _ h => h) (Or.inl ⟨by rfl, ?hy10⟩) (by assumption) ?rest10
          case hy10 => (intro W9 hW9; obtain ⟨k0, k1⟩ := hW9; first | (go_simp; done) | (go_simp; with_reducible rfl))
          simp only [Act.put, List.getElem_toArray, List.getElem_cons_succ, List.getElem_cons_zero, List.setIfInBounds_toArray, List.set_cons_zero, List.set_cons_succ]
          refine wpAnyH_done (by kernel_rfl) ?_ _
          go_wp2
          refine bodyPost_ret (v := .bool false) (by simp [results, Tryd.results10, go_sem, *]) rfl ⟨?_, hb.drew⟩
          have := HNE.out hxy
          simp [this]
      · obtain rfl : k = l.length := by omega
        have hlm2 : l = m := by
          have := HT.out
          rw [List.take_length, hlm, List.take_length] at this
          exact this
        have HLM := Lib.hid hlm2
        clear hlm2
        go_wp2
        refine bodyPost_ret (v := .bool true) (by simp [results, Tryd.results10, go_sem, *]) rfl ⟨by simp [HLM.out], hb⟩
  · have hlb : ((l.length : Int) == m.length) = false := by simp; omega
    have hne : l ≠ m := fun e => hlm (by rw [e])
    have HNE := Lib.hid hne
    clear hne hlm
    go_enter Tryd.func10, Tryd.ntmps10
    go_wp2
    refine bodyPost_ret (v := .bool false) (by simp [results, Tryd.results10, go_sem, *]) rfl ⟨by simp [HNE.out], Below.refl _ _⟩
end Go.Proofs.YtpfhhdiipedklaaDoor
