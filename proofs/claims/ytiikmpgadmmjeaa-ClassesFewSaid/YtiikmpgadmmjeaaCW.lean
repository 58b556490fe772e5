/- What comes in: rows of 256 bytes, slices of bytes, tables. -/
import Derived.Test.YtiikmpgadmmjeaaCS
import Derived.Test.YtiikmpgadmmjeaaCP
import Derived.Deep.Matrix
set_option maxRecDepth 100000
namespace Go.Proofs.Ytiikmpgadmmjeaa
open Go.ChangeShapes Go.WideShapes Go.ChangeAt Go.RowKit Go.Deep

theorem cellsU8s : Try.prog.cellsOf 24 = 256 := by kernel_rfl
theorem okWide_u8s {W : World} {r : Reach} {base : Nat} {v : Value} (h : Value.okWide Try.prog W r base 24 v) : ∃ cs, v = .agg cs ∧ cs.size = 256 := by
  simp only [Value.okWide, Try.underlying24] at h
  obtain ⟨cs, h1, h2, _⟩ := h
  exact ⟨cs, h1, h2.trans cellsU8s⟩
theorem open_u8s {H : Type} {enc : TypeId × Value → H} {W : World} {r : Reach} {base : Nat} {v : Value} {d : DataW H} {p : List MemPlace} (hv : Value.okWide Try.prog W r base 24 v)
    (h : DataW.Trod enc Try.prog W 0 (fun _ => true) true 24 v d p) : ∃ f : Nat → Nat, v = .agg (U8s f) ∧ ∀ b, b < 256 → f b < 256 := by
  obtain ⟨cs, rfl, hsz⟩ := okWide_u8s hv
  obtain ⟨fuel, hf⟩ := h
  obtain ⟨xs, m, rfl, hx, _, hl, hel⟩ := DataW.trod_array Try.underlying24 hf
  rw [cellsU8] at hel
  have each : ∀ i, i < 256 → ∃ y : Nat, y < 256 ∧ cs[i]? = some (.int .u8 (y : Nat)) := fun i hi => by
    have k := hel i hi
    rw [List.getElem?_eq_getElem (by omega)] at k
    obtain ⟨n0, e0, _, w0⟩ := DataW.trod_int Try.underlying5 k
    obtain ⟨m0, rfl, l0⟩ := nat_u8 w0
    refine ⟨m0, l0, ?_⟩
    have h2 := congrArg (fun l => l[0]?) e0
    simp [Value.cells, List.getElem?_drop] at h2
    exact h2
  obtain ⟨f, hf2⟩ := choose_lt each
  refine ⟨f, ?_, fun b hb => (hf2 b hb).1⟩
  congr 1
  apply Array.ext
  · rw [hsz, u8c_size]
  · intro i h1 h2
    have hi : i < 256 := by rw [← hsz]; exact h1
    have := (hf2 i hi).2
    rw [Array.getElem?_eq_getElem h1] at this
    have h3 := u8c_at f hi
    rw [Array.getElem?_eq_getElem h2] at h3
    exact Option.some.inj (this.trans h3.symm)
/-- As bytes lie, at any place. -/
def BytesAt (w : World) (v : Value) (l : List Nat) : Prop := ∃ a c, v = .slice a l.length c ∧ ∀ i (h : i < l.length), ∃ b o, a = some ⟨b, o, none⟩ ∧ w.cell? ⟨b, o + i, none⟩ = some (.int .u8 (l[i] : Nat))
theorem open_bytes {H : Type} {enc : TypeId × Value → H} {W : World} {r : Reach} {base : Nat} {v : Value} {d : DataW H} {p : List MemPlace} (hv : Value.okWide Try.prog W r base 28 v)
    (h : DataW.Trod enc Try.prog W 0 (fun _ => true) true 28 v d p) : ∃ l, BytesAt W v l ∧ l.length < 9223372036854775808 ∧ ∀ x ∈ l, x < 256 := by
  obtain ⟨a0, len, cap, rfl⟩ := okWide_slice Try.underlying28 hv
  obtain ⟨fuel, hf⟩ := h
  rcases open_slice Try.underlying28 hf with ⟨hcs, _⟩ | ⟨a, len', cap', m, n, D, Pl, hcs, hb, hlc, hcm, hm, hx, hel⟩
  · simp [Value.cells] at hcs
    obtain ⟨rfl, rfl, rfl⟩ := hcs
    exact ⟨[], ⟨none, 0, rfl, fun i hi => by simp at hi⟩, by simp, fun x h => by cases h⟩
  · simp [Value.cells] at hcs
    obtain ⟨rfl, rfl, rfl⟩ := hcs
    simp only [if_true] at hm
    subst hm
    rw [cellsU8] at hel
    have each : ∀ i, i < len → ∃ y : Nat, y < 256 ∧ W.cell? ((a.add (i * 1)).add 0) = some (.int .u8 (y : Nat)) := fun i hi => by
      obtain ⟨cs, h1, h2⟩ := hel i (by omega)
      obtain ⟨_, h3, h4⟩ := World.cells?_some h1
      obtain ⟨n0, e0, _, w0⟩ := DataW.trod_int Try.underlying5 h2
      subst e0
      obtain ⟨m0, rfl, l0⟩ := nat_u8 w0
      exact ⟨m0, l0, h4 0 (by omega)⟩
    obtain ⟨f, hf⟩ := choose_lt each
    refine ⟨(List.range len).map f, ⟨some a, _, by simp; rfl, fun i hi => ?_⟩, by simp [maxLen] at hcm ⊢; omega, fun y hy => ?_⟩
    · have hi' : i < len := by simpa using hi
      obtain ⟨b, o, rfl⟩ := spot_none (by have := (hf 0 (by omega)).2; rw [Nat.zero_mul] at this; exact this)
      have k0 := (hf i hi').2
      rw [add_none, add_none] at k0
      exact ⟨b, o, rfl, by simpa using k0⟩
    · obtain ⟨i, hi, rfl⟩ := List.mem_map.1 hy
      exact (hf i (by simpa using hi)).1
theorem open_nums {H : Type} {enc : TypeId × Value → H} {W : World} {base : Nat} {sp : Nat → Bool} {hd : Bool} {n : Nat} {v : Value} {x : DataW H × List MemPlace} (h : DataW.trod enc Try.prog W base sp hd n 44 [v] = some x) : ∃ l, NumsAt W v l ∧ l.length < 9223372036854775808 ∧ ∀ y ∈ l, -9223372036854775808 ≤ y ∧ y < 9223372036854775808 := by
  rcases open_slice Try.underlying44 h with ⟨hcs, _⟩ | ⟨a, len, cap, m, n, D, Pl, hcs, hb, hlc, hcm, hm, hx, hel⟩
  · simp at hcs
    subst hcs
    exact ⟨[], ⟨none, 0, rfl, fun i hi => by simp at hi⟩, by simp, fun a h => by cases h⟩
  · simp at hcs
    subst hcs
    rw [cellsInt] at hel
    have hlm : len ≤ m := by rw [hm]; split <;> omega
    have each : ∀ i, i < len → ∃ y : Int, (-9223372036854775808 ≤ y ∧ y < 9223372036854775808) ∧ W.cell? ((a.add (i * 1)).add 0) = some (.int .i64 y) := fun i hi => by
      obtain ⟨cs, h1, h2⟩ := hel i (by omega)
      obtain ⟨_, h3, h4⟩ := World.cells?_some h1
      obtain ⟨n0, e0, _, w0⟩ := DataW.trod_int Try.underlying3 h2
      subst e0
      have b0 := bounds_i64 w0
      exact ⟨n0, by omega, h4 0 (by omega)⟩
    obtain ⟨f, hf⟩ := choose_lt each
    refine ⟨(List.range len).map f, ⟨some a, cap, by simp, fun i hi => ?_⟩, by simp [maxLen] at hcm ⊢; omega, fun y hy => ?_⟩
    · have hi' : i < len := by simpa using hi
      obtain ⟨b, o, rfl⟩ := spot_none (by have := (hf 0 (by omega)).2; rw [Nat.zero_mul] at this; exact this)
      have k0 := (hf i hi').2
      rw [add_none, add_none] at k0
      exact ⟨b, o, rfl, by simpa using k0⟩
    · obtain ⟨i, hi, rfl⟩ := List.mem_map.1 hy
      exact (hf i (by simpa using hi)).1
theorem open_table {H : Type} {enc : TypeId × Value → H} {W : World} {r : Reach} {base : Nat} {v : Value} {d : DataW H} {p : List MemPlace} (hv : Value.okWide Try.prog W r base 31 v)
    (h : DataW.Trod enc Try.prog W 0 (fun _ => true) true 31 v d p) : ∃ T, TabAt W v T ∧ TabOk T := by
  obtain ⟨a0, len, cap, rfl⟩ := okWide_slice Try.underlying31 hv
  obtain ⟨fuel, hf⟩ := h
  rcases open_slice Try.underlying31 hf with ⟨hcs, _⟩ | ⟨a, len', cap', m, n, D, Pl, hcs, hb, hlc, hcm, hm, hx, hel⟩
  · simp [Value.cells] at hcs
    obtain ⟨rfl, rfl, rfl⟩ := hcs
    exact ⟨[], ⟨none, 0, rfl, fun i hi => by simp at hi⟩, by simp, fun x h => by cases h⟩
  · simp [Value.cells] at hcs
    obtain ⟨rfl, rfl, rfl⟩ := hcs
    simp only [if_true] at hm
    subst hm
    rw [cellsSl] at hel
    have each : ∀ i, i < len → ∃ y : List Int × Value, (y.1.length < 9223372036854775808 ∧ ∀ z ∈ y.1, -9223372036854775808 ≤ z ∧ z < 9223372036854775808) ∧ W.cell? ((a.add (i * 1)).add 0) = some y.2 ∧ NumsAt W y.2 y.1 := fun i hi => by
      obtain ⟨cs, h1, h2⟩ := hel i (by omega)
      obtain ⟨_, h3, h4⟩ := World.cells?_some h1
      match cs, h3 with
      | [c0], _ =>
        obtain ⟨l, hl, hlen, hb⟩ := open_nums h2
        exact ⟨(l, c0), ⟨hlen, hb⟩, h4 0 (by omega), hl⟩
    obtain ⟨f, hf⟩ := choose_lt each
    refine ⟨(List.range len).map fun i => (f i).1, ⟨some a, _, by simp; rfl, fun i hi => ?_⟩, by simp [maxLen] at hcm ⊢; omega, fun y hy => ?_⟩
    · have hi' : i < len := by simpa using hi
      obtain ⟨b, o, rfl⟩ := spot_none (by have := (hf 0 (by omega)).2.1; rw [Nat.zero_mul] at this; exact this)
      have k0 := (hf i hi').2.1
      rw [add_none, add_none] at k0
      exact ⟨b, o, (f i).2, rfl, by simpa using k0, by simpa using (hf i hi').2.2⟩
    · obtain ⟨i, hi, rfl⟩ := List.mem_map.1 hy
      exact (hf i (by simpa using hi)).1
end Go.Proofs.Ytiikmpgadmmjeaa
