/- The example's machine: its classes, its table; what the laws share. -/
import Derived.Test.YtiikmpgadmmjeaaCQ
set_option maxRecDepth 100000
namespace Go.Proofs.Ytiikmpgadmmjeaa
open Go.RowKit

def abM : List Sta := [⟨0, [⟨97, 99, 1⟩]⟩, ⟨0, [⟨120, 120, 2⟩]⟩, ⟨1, []⟩]
theorem ab_reps : repsUp (likeB abM) 256 = [0, 97, 120] := by decide +kernel
theorem ab_cnt : cntOf abM = 3 := by unfold cntOf; rw [ab_reps]; rfl
theorem ab_low : (List.range 3).map (lowF (clsOf (likeB abM)) 256) = [0, 97, 120] := by decide +kernel
theorem ab_b : clsOf (likeB abM) 98 = 1 := by decide +kernel
theorem ab_d : clsOf (likeB abM) 100 = 0 := by decide +kernel
theorem ab_tab : tabS abM = [[-1, 1, -1], [-1, -1, 2], [-1, -1, -1]] := by decide +kernel
theorem ab_bx : runT (tabS abM) (clsOf (likeB abM)) [98, 120] = 2 := by decide +kernel
theorem ab_x : runT (tabS abM) (clsOf (likeB abM)) [120] = -1 := by decide +kernel
theorem ab_check : checkB abM = true := by decide +kernel
theorem ab_mays : Mays abM := by
  intro s hs
  simp only [abM, List.mem_cons, List.not_mem_nil, or_false] at hs
  rcases hs with rfl | rfl | rfl
  · exact ⟨by decide, fun a ha => by simp only [List.mem_singleton] at ha; subst ha; exact ⟨by decide, by decide, by decide, by decide⟩⟩
  · exact ⟨by decide, fun a ha => by simp only [List.mem_singleton] at ha; subst ha; exact ⟨by decide, by decide, by decide, by decide⟩⟩
  · exact ⟨by decide, fun a ha => by cases ha⟩
theorem ab_back : backS (tabS abM) (clsOf (likeB abM)) [0, 0, 1] = abM := back_is ab_check ab_mays
theorem ab_len : ∀ s ∈ abM, s.arcs.length < 9223372036854775808 := by
  intro s hs
  simp only [abM, List.mem_cons, List.not_mem_nil, or_false] at hs
  rcases hs with rfl | rfl | rfl <;> decide
/-- Where a machine leads is a number. -/
theorem first_may {l : List Arc3} (h : ∀ a ∈ l, a.may) (b : Nat) : -9223372036854775808 ≤ firstTo l b ∧ firstTo l b < 9223372036854775808 := by
  induction l with
  | nil => show _ ≤ (-1 : Int) ∧ (-1 : Int) < _; omega
  | cons a l ih =>
    show -9223372036854775808 ≤ (if a.has b then a.dest else firstTo l b) ∧ (if a.has b then a.dest else firstTo l b) < 9223372036854775808
    split
    · exact (h a (by simp)).2.2
    · exact ih fun x hx => h x (by simp [hx])
theorem next_may {m : List Sta} (h : Mays m) (s : Int) (b : Nat) : -9223372036854775808 ≤ nextS m s b ∧ nextS m s b < 9223372036854775808 := by
  by_cases hs : 0 ≤ s ∧ s.toNat < m.length
  · obtain ⟨k, rfl⟩ : ∃ k : Nat, s = k := ⟨s.toNat, by omega⟩
    rw [next_at (by omega)]
    exact first_may (h m[k] (List.getElem_mem _)).2 b
  · unfold nextS; rw [dif_neg hs]; omega
theorem tab_ok {m : List Sta} (hm : Mays m) (hl : m.length < 9223372036854775808) : TabOk (tabS m) := by
  refine ⟨by rw [tab_len]; exact hl, fun r hr => ?_⟩
  obtain ⟨i, _, rfl⟩ := List.mem_map.1 hr
  refine ⟨by rw [row_len]; have := cntOf_le m; omega, fun x hx => ?_⟩
  obtain ⟨k, _, rfl⟩ := List.mem_map.1 hx
  exact next_may hm _ _
theorem bytesOf_lt (s : ByteArray) : ∀ b ∈ bytesOf s, b < 256 := by
  intro b hb
  obtain ⟨x, _, rfl⟩ := List.mem_map.1 hb
  exact x.toNat_lt
/-- Bytes in a block of their own, as a text. -/
theorem conv_low {w : World} {L n : Nat} {f : Nat → Nat} (h : LBlk w L n f) : (convert 28 9 (.slice (some ⟨L, 0, none⟩) n n)).run Try.prog w = .ok (.string (strOf ((List.range n).map f))) w := by
  rw [run_convert_bytes_string w _ _ _ _ _ n Try.underlying28 Try.underlying5 Try.underlying9]
  have hl := run_loadCells_list (P := Try.prog) (w := w) ⟨L, 0, none⟩ (u8s ((List.range n).map f)) (fun j v hv => by
    have hj : j < n := by
      have := (List.getElem?_eq_some_iff.1 hv).1
      rw [u8s_len] at this
      simpa using this
    have hvj : v = .int .u8 (f j : Nat) := by
      rw [u8s_at (by simpa using hj)] at hv
      simpa using hv.symm
    subst hvj
    rw [show (⟨L, 0, none⟩ : Addr).add j = ⟨L, j, none⟩ by simp [Addr.add]; intro e; subst e; rfl]
    exact h.cell hj)
  rw [u8s_len, List.length_map, List.length_range] at hl
  generalize (List.range n).map f = X at *
  have hu : u8s X = (X.map fun x : Nat => (x : Int)).map (Value.int .u8) := by unfold u8s; rw [List.map_map]; rfl
  rw [hu] at hl
  rw [run_bytesToString w ⟨L, 0, none⟩ _ n _ hl, foldl_push_bytes]
  simp [strOf, ByteArray.empty, ByteArray.emptyWithCapacity]
  rfl
end Go.Proofs.Ytiikmpgadmmjeaa
