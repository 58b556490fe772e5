/- Contract of slices.Reverse on rows of nodes of one's own. -/
import Derived.Test.YtnjcefjcpmjdiaaDA
import Derived.RegionTactic
import Derived.BigRegion
set_option maxRecDepth 20000
namespace Go.Proofs.Ytnjcefjcpmjdiaa
open Go.RowKit

theorem NRow.drew {w : World} {base : Nat} {v : Value} {L : List (Pat × Value)} (h : NRow w base v L) : NRow w.drew base v L := ⟨h.1, fun x hx => (h.2 x hx).drewM⟩
theorem grown_drew {a b : World} {x : Option Nat} (h : a.grownBy b x) : a.grownBy b.drew x := ⟨h.os, h.tape, h.output, h.size, h.block⟩
/-- The outermost k pairs exchanged. -/
def rv (L : List (Pat × Value)) : Nat → List (Pat × Value)
  | 0 => L
  | k + 1 => match (rv L k)[L.length - 1 - k]?, (rv L k)[k]? with
    | some y, some x => ((rv L k).set k y).set (L.length - 1 - k) x
    | _, _ => rv L k
theorem rv_length (L : List (Pat × Value)) : ∀ k, (rv L k).length = L.length
  | 0 => rfl
  | k + 1 => by
    rw [rv]
    split
    · rw [List.length_set, List.length_set, rv_length L k]
    · exact rv_length L k
theorem rv_step (L : List (Pat × Value)) (k : Nat) (h1 : k < (rv L k).length) (h2 : L.length - 1 - k < (rv L k).length) : rv L (k + 1) = ((rv L k).set k (rv L k)[L.length - 1 - k]).set (L.length - 1 - k) (rv L k)[k] := by
  rw [rv, List.getElem?_eq_getElem h2, List.getElem?_eq_getElem h1]
theorem rv_at (L : List (Pat × Value)) : ∀ k, 2 * k ≤ L.length → ∀ m, m < L.length → (rv L k)[m]? = if m < k ∨ L.length - k ≤ m then L[L.length - 1 - m]? else L[m]?
  | 0, _, m, hm => by rw [rv, if_neg (by omega)]
  | k + 1, hk, m, hm => by
    have hl := rv_length L k
    have ih := rv_at L k (by omega)
    by_cases he : L.length - 1 - k = k
    · omega
    · have hlt : k < L.length - 1 - k := by omega
      rw [rv_step L k (by omega) (by omega), List.getElem?_set, List.getElem?_set]
      by_cases h1 : L.length - 1 - k = m
      · rw [if_pos h1, if_pos (by simp; omega), if_pos (by omega)]
        have := ih k (by omega)
        rw [List.getElem?_eq_getElem (by omega), if_neg (by omega)] at this
        rw [this, show L.length - 1 - m = k from by omega]
      · rw [if_neg h1]
        by_cases h2 : k = m
        · rw [if_pos h2, if_pos (by omega), if_pos (by omega)]
          have := ih (L.length - 1 - k) (by omega)
          rw [List.getElem?_eq_getElem (by omega), if_neg (by omega)] at this
          rw [this, h2]
        · rw [if_neg h2, ih m hm]
          by_cases h3 : m < k ∨ L.length - k ≤ m
          · rw [if_pos h3, if_pos (by omega)]
          · rw [if_neg h3, if_neg (by omega)]
theorem rv_end (L : List (Pat × Value)) (k : Nat) (hk : 2 * k ≤ L.length) (h : L.length ≤ 2 * k + 1) : rv L k = L.reverse := by
  apply List.ext_getElem?
  intro m
  by_cases hm : m < L.length
  · rw [rv_at L k hk m hm, List.getElem?_reverse hm]
    by_cases h1 : m < k ∨ L.length - k ≤ m
    · rw [if_pos h1]
    · rw [if_neg h1, show L.length - 1 - m = m from by omega]
  · rw [List.getElem?_eq_none (by rw [rv_length]; omega), List.getElem?_eq_none (by simp; omega)]
set_option maxHeartbeats 4000000 in
theorem reverse_any (base g cap : Nat) (L : List (Pat × Value)) (w : World) (hl : L.length < 100000) (h0 : 0 < L.length) (h : NRow w base (.slice (some ⟨g, 0, none⟩) L.length cap) L) :
    Calls Try.prog 44 #[.slice (some ⟨g, 0, none⟩) L.length cap] w fun e w' => e = .returned (.tuple #[]) ∧ NRow w' base (.slice (some ⟨g, 0, none⟩) L.length cap) L.reverse ∧ w.grownBy w' (some g) := by
  have hj0 : ((L.length : Int) - 1) = ((L.length - 1 - 0 : Nat) : Int) := by omega
  go_enter Try.func44, Try.ntmps44
  go_wp2_with fail
  go_loopw [2, 3] (fun i j wr => ∃ k m : Nat, m + k + 1 = L.length ∧ (k ≤ m + 1) ∧ i = .int .i64 k ∧ j = .int .i64 m ∧ NRow wr base (.slice (some ⟨g, 0, none⟩) L.length cap) (rv L k) ∧ w.grownBy wr (some g)) (fun i _ _ => L.length - (intOf i).toNat)
  case atStart => exact ⟨0, L.length - 1, by omega, by omega, rfl, by simp, h, ⟨rfl, rfl, rfl, Nat.le_refl _, fun _ _ _ => rfl⟩⟩
  case round =>
    obtain ⟨k, m, hkm, hkm2, rfl, rfl, hrow, hg⟩ := hrel
    have hrl := rv_length L k
    by_cases hlt : k < m
    · have hm : m = L.length - 1 - k := by omega
      obtain ⟨e0, e1, e2, e3, e4, e5, e6, e7⟩ := hrow.load hrl k (by omega)
      obtain ⟨f0, f1, f2, f3, f4, f5, f6, f7⟩ := hrow.load hrl m (by omega)
      have hkx := hrow.2 _ (List.getElem_mem (l := rv L k) (n := k) (by omega))
      have hky := hrow.2 _ (List.getElem_mem (l := rv L k) (n := m) (by omega))
      have HST : Hid (rv L (k + 1) = ((rv L k).set k (rv L k)[m]).set m (rv L k)[k]) := by rw [Hid, rv_step L k (by omega) (by omega)]; simp only [← hm]
      generalize (rv L k)[k] = x at *
      generalize (rv L k)[m] = y at *
      obtain ⟨x1, x2⟩ := x
      obtain ⟨y1, y2⟩ := y
      obtain ⟨xa, xc, ex⟩ := hkx.len
      obtain ⟨ya, yc, ey⟩ := hky.len
      simp only at ex ey hkx hky
      subst ex ey
      have fr := hrow.free hrl
      have hbk : k < L.length := by omega
      have hbm : m < L.length := by omega
      have hne : k ≠ m := by omega
      clear hj0 hm
      go_wp2_with fail
      go_region
      have hky' : Kids (mask wr base (some g)) y1.kids (.slice ya y1.kids.length yc) := hky
      have hkx' : Kids (mask wr base (some g)) x1.kids (.slice xa x1.kids.length xc) := hkx
      obtain ⟨h1, hg1⟩ := hrow.set hrl (i := k) (by omega) (p := y1) hky'
      obtain ⟨h2, hg2⟩ := h1.set (by rw [List.length_set]; exact hrl) (i := m) (by rw [List.length_set]; omega) (p := x1) (hkx'.masked hg1 (.inl rfl))
      have hg3 := grown_drew (grown_trans (grown_trans hg hg1) hg2)
      rw [← HST.out] at h2
      have h3 := h2.drew
      clear e0 e1 e2 e3 e4 e5 e6 e7 f0 f1 f2 f3 f4 f5 f6 f7 fr h1 hg1 h2 hg2 HST hkx hky hkx' hky' hrow hg
      revert h3 hg3
      generalize World.drew _ = w9
      intro hg3 h3
      go_wp2_with fail
      go_roundw
      case rel => exact ⟨k + 1, m - 1, by omega, by omega, num_succ k, by simp; omega, h3, hg3⟩
      case measure => simp [intOf]; omega
    · have HE : Hid (rv L k = L.reverse) := rv_end L k (by omega) (by omega)
      go_wp2_with fail
      go_end0
      exact ⟨rfl, by rw [← HE.out]; exact hrow, hg⟩
set_option maxHeartbeats 1000000 in
theorem reverse_nil (a : Option Addr) (cap : Nat) (w : World) :
    Calls Try.prog 44 #[.slice a 0 cap] w fun e w' => e = .returned (.tuple #[]) ∧ Below w.heap.size w w' := by
  go_enter Try.func44, Try.ntmps44
  go_wp2_with fail
  refine wp_loop_rounds 1 ?_
  rw [rounds_succ]; go_wp2_with fail
  go_end0
  exact ⟨rfl, Below.refl _ _⟩
end Go.Proofs.Ytnjcefjcpmjdiaa
