/- What comes in: machines, bytes, numbers. -/
import Derived.Test.YtmhjabodhgacnaaPX
import Derived.Test.YtmhjabodhgacnaaPR
import Derived.ProofKit
import Derived.OpenShut
import Derived.Stop.Joined
import Derived.Lib.SmallJoins
import Derived.Deep.Slices
import Derived.Deep.Matrix
set_option maxRecDepth 100000
namespace Go.Proofs.Ytmhjabodhgacnaa
open Go.ChangeShapes Go.WideShapes Go.ChangeAt Go.RowKit Go.Deep

theorem own : ownKnob Try.prog.godebug = none := by kernel_rfl
theorem laidOut : laidOutB Try.prog = true := by kernel_rfl
theorem cellsArc : Try.prog.cellsOf 69 = 3 := by kernel_rfl
theorem cellsSta : Try.prog.cellsOf 54 = 2 := by kernel_rfl
theorem cellsU64 : Try.prog.cellsOf 24 = 1 := by kernel_rfl
theorem cellsInt : Try.prog.cellsOf 3 = 1 := by kernel_rfl
theorem cellsArcs : Try.prog.cellsOf 52 = 1 := by kernel_rfl
theorem spot_none {W : World} {a : Addr} {v : Value} (h : W.cell? ((a.add 0).add 0) = some v) : ∃ b o, a = ⟨b, o, none⟩ := by
  obtain ⟨b, off, sp⟩ := a
  simp only [Addr.add, if_true] at h
  unfold World.cell? at h
  split at h
  · split at h
    · cases h
    · rename_i hn
      obtain rfl : sp = none := by simpa using hn
      exact ⟨_, _, rfl⟩
  · cases h
theorem nat_u8 {n : Int} (h : (Lit.int .u8 n).wf = true) : ∃ m : Nat, n = m ∧ m < 256 := by
  have h2 := bounds_u8 h
  exact ⟨n.toNat, by omega, by omega⟩
theorem nat_u64 {n : Int} (h : (Lit.int .u64 n).wf = true) : ∃ m : Nat, n = m ∧ m < 18446744073709551616 := by
  have h2 := bounds_u64 h
  exact ⟨n.toNat, by omega, by omega⟩
instance : Inhabited Arc3 := ⟨⟨0, 0, 0⟩⟩
instance : Inhabited Sta := ⟨⟨0, []⟩⟩
section
variable {H : Type} {enc : TypeId × Value → H} {W : World} {base : Nat} {sp : Nat → Bool} {hd : Bool}
theorem arc_of_cells {n : Nat} {cs : List Value} {x : DataW H × List MemPlace} (hl : cs.length = 3) (h : DataW.trod enc Try.prog W base sp hd n 69 cs = some x) :
    ∃ a : Arc3, a.may ∧ cs = [.int .u8 a.lo, .int .u8 a.hi, .int .i64 a.dest] := by
  obtain ⟨xs, m, rfl, hx, _, hl2, hel⟩ := DataW.trod_struct Try.underlying69 h
  match cs, hl, xs, hl2 with
  | [c0, c1, c2], _, [x0, x1, x2], _ =>
    have k0 := hel 0 _ rfl
    have k1 := hel 1 _ rfl
    have k2 := hel 2 _ rfl
    simp [cellsU8] at k0 k1
    simp [cellsInt] at k2
    obtain ⟨n0, e0, _, w0⟩ := DataW.trod_int Try.underlying5 k0
    obtain ⟨n1, e1, _, w1⟩ := DataW.trod_int Try.underlying5 k1
    obtain ⟨n2, e2, _, w2⟩ := DataW.trod_int Try.underlying3 k2
    simp at e0 e1 e2
    subst e0 e1 e2
    obtain ⟨m0, rfl, l0⟩ := nat_u8 w0
    obtain ⟨m1, rfl, l1⟩ := nat_u8 w1
    have b2 := bounds_i64 w2
    exact ⟨⟨m0, m1, n2⟩, ⟨l0, l1, by show -9223372036854775808 ≤ n2; omega, by show n2 < 9223372036854775808; omega⟩, rfl⟩
theorem open_arcs {n : Nat} {v : Value} {x : DataW H × List MemPlace} (h : DataW.trod enc Try.prog W base sp hd n 52 [v] = some x) : ∃ l, ArcsAt W v l ∧ l.length < 9223372036854775808 ∧ ∀ a ∈ l, a.may := by
  rcases open_slice Try.underlying52 h with ⟨hcs, _⟩ | ⟨a, len, cap, m, n, D, Pl, hcs, hb, hlc, hcm, hm, hx, hel⟩
  · simp at hcs
    subst hcs
    exact ⟨[], ArcsAt.nil W, by simp, fun a h => by cases h⟩
  · simp at hcs
    subst hcs
    rw [cellsArc] at hel
    have hlm : len ≤ m := by rw [hm]; split <;> omega
    have each : ∀ i, i < len → ∃ y : Arc3, y.may ∧ ∀ j, j < 3 → W.cell? ((a.add (i * 3)).add j) = [Value.int .u8 y.lo, .int .u8 y.hi, .int .i64 y.dest][j]? := fun i hi => by
      obtain ⟨cs, h1, h2⟩ := hel i (by omega)
      obtain ⟨_, h3, h4⟩ := World.cells?_some h1
      obtain ⟨y, hy, rfl⟩ := arc_of_cells h3 h2
      exact ⟨y, hy, h4⟩
    obtain ⟨f, hf⟩ := choose_lt each
    refine ⟨(List.range len).map f, ⟨some a, cap, by simp, fun i hi => ?_⟩, by simp [maxLen] at hcm ⊢; omega, fun y hy => ?_⟩
    · have hi' : i < len := by simpa using hi
      obtain ⟨b, o, rfl⟩ := spot_none (by have := (hf 0 (by omega)).2 0 (by omega); rw [Nat.zero_mul] at this; exact this)
      have k0 := (hf i hi').2 0 (by omega)
      have k1 := (hf i hi').2 1 (by omega)
      have k2 := (hf i hi').2 2 (by omega)
      rw [add_none, add_none] at k0 k1 k2
      refine ⟨b, o, rfl, ?_, ?_, ?_⟩
      · simpa using k0
      · simpa using k1
      · simpa using k2
    · obtain ⟨i, hi, rfl⟩ := List.mem_map.1 hy
      exact (hf i (by simpa using hi)).1
theorem sta_of_cells {n : Nat} {cs : List Value} {x : DataW H × List MemPlace} (hl : cs.length = 2) (h : DataW.trod enc Try.prog W base sp hd n 54 cs = some x) :
    ∃ (s : Sta) (v : Value), s.may ∧ s.arcs.length < 9223372036854775808 ∧ cs = [.int .u64 s.acc, v] ∧ ArcsAt W v s.arcs := by
  obtain ⟨xs, m, rfl, hx, _, hl2, hel⟩ := DataW.trod_struct Try.underlying54 h
  match cs, hl, xs, hl2 with
  | [c0, c1], _, [x0, x1], _ =>
    have k0 := hel 0 _ rfl
    have k1 := hel 1 _ rfl
    simp [cellsU64] at k0
    simp [cellsArcs] at k1
    obtain ⟨n0, e0, _, w0⟩ := DataW.trod_int Try.underlying24 k0
    simp at e0
    subst e0
    obtain ⟨m0, rfl, l0⟩ := nat_u64 w0
    obtain ⟨l, hA, hlen, hmay⟩ := open_arcs k1
    exact ⟨⟨m0, l⟩, c1, ⟨l0, hmay⟩, hlen, rfl, hA⟩
end
theorem open_mach {H : Type} {enc : TypeId × Value → H} {W : World} {r : Reach} {base : Nat} {v : Value} {d : DataW H} {p : List MemPlace} (hv : Value.okWide Try.prog W r base 23 v)
    (h : DataW.Trod enc Try.prog W 0 (fun _ => true) true 23 v d p) : ∃ m, MachAt W v m ∧ m.length < 9223372036854775808 ∧ (∀ s ∈ m, s.arcs.length < 9223372036854775808) ∧ Mays m := by
  obtain ⟨a0, len, cap, rfl⟩ := okWide_slice Try.underlying23 hv
  obtain ⟨fuel, hf⟩ := h
  rcases open_slice Try.underlying23 hf with ⟨hcs, _⟩ | ⟨a, len', cap', m, n, D, Pl, hcs, hb, hlc, hcm, hm, hx, hel⟩
  · simp [Value.cells] at hcs
    obtain ⟨rfl, rfl, rfl⟩ := hcs
    exact ⟨[], MachAt.nil W, by simp, fun s h => (by cases h), fun s h => (by cases h)⟩
  · simp [Value.cells] at hcs
    obtain ⟨rfl, rfl, rfl⟩ := hcs
    simp only [if_true] at hm
    subst hm
    rw [cellsSta] at hel
    have each : ∀ i, i < len → ∃ y : Sta × Value, y.1.may ∧ y.1.arcs.length < 9223372036854775808 ∧ (∀ j, j < 2 → W.cell? ((a.add (i * 2)).add j) = [Value.int .u64 y.1.acc, y.2][j]?) ∧ ArcsAt W y.2 y.1.arcs := fun i hi => by
      obtain ⟨cs, h1, h2⟩ := hel i (by omega)
      obtain ⟨_, h3, h4⟩ := World.cells?_some h1
      obtain ⟨s, u, hs, hl, rfl, hA⟩ := sta_of_cells h3 h2
      exact ⟨(s, u), hs, hl, h4, hA⟩
    obtain ⟨f, hf⟩ := choose_lt each
    refine ⟨(List.range len).map fun i => (f i).1, ⟨some a, _, by simp; rfl, fun i hi => ?_⟩, by simp [maxLen] at hcm ⊢; omega, fun y hy => ?_, fun y hy => ?_⟩
    · have hi' : i < len := by simpa using hi
      obtain ⟨b, o, rfl⟩ := spot_none (by have := (hf 0 (by omega)).2.2.1 0 (by omega); rw [Nat.zero_mul] at this; exact this)
      have k0 := (hf i hi').2.2.1 0 (by omega)
      have k1 := (hf i hi').2.2.1 1 (by omega)
      rw [add_none, add_none] at k0 k1
      refine ⟨b, o, (f i).2, rfl, ?_, ?_, ?_⟩
      · simpa using k0
      · simpa using k1
      · simpa using (hf i hi').2.2.2
    · obtain ⟨i, hi, rfl⟩ := List.mem_map.1 hy
      exact (hf i (by simpa using hi)).2.1
    · obtain ⟨i, hi, rfl⟩ := List.mem_map.1 hy
      exact (hf i (by simpa using hi)).1
theorem open_bytes {H : Type} {enc : TypeId × Value → H} {W : World} {r : Reach} {base : Nat} {v : Value} {d : DataW H} {p : List MemPlace} (hv : Value.okWide Try.prog W r base 25 v)
    (h : DataW.Trod enc Try.prog W 0 (fun _ => true) true 25 v d p) : ∃ l, BytesAt W v l ∧ l.length < 9223372036854775808 ∧ ∀ x ∈ l, x < 256 := by
  obtain ⟨a0, len, cap, rfl⟩ := okWide_slice Try.underlying25 hv
  obtain ⟨fuel, hf⟩ := h
  rcases open_slice Try.underlying25 hf with ⟨hcs, _⟩ | ⟨a, len', cap', m, n, D, Pl, hcs, hb, hlc, hcm, hm, hx, hel⟩
  · simp [Value.cells] at hcs
    obtain ⟨rfl, rfl, rfl⟩ := hcs
    exact ⟨[], BytesAt.nil W, by simp, fun x h => by cases h⟩
  · simp [Value.cells] at hcs
    obtain ⟨rfl, rfl, rfl⟩ := hcs
    simp only [if_true] at hm
    subst hm
    rw [cellsU8] at hel
    have each : ∀ i, i < len → ∃ y : Nat, y < 256 ∧ W.cell? ((a.add (i * 1)).add 0) = some (.int .u8 (y : Nat)) := fun i hi => by
      obtain ⟨cs, h1, h2⟩ := hel i (by omega)
      obtain ⟨_, h3, h4⟩ := World.cells?_some h1
      obtain ⟨n0, e0, _, w0⟩ := DataW.trod_int Try.underlying5 h2
      subst e0
      obtain ⟨m0, rfl, l0⟩ := nat_u8 w0
      exact ⟨m0, l0, h4 0 (by omega)⟩
    obtain ⟨f, hf⟩ := choose_lt each
    refine ⟨(List.range len).map f, ⟨some a, _, by simp; rfl, by simpa using hlc, fun i hi => ?_⟩, by simp [maxLen] at hcm ⊢; omega, fun y hy => ?_⟩
    · have hi' : i < len := by simpa using hi
      obtain ⟨b, o, rfl⟩ := spot_none (by have := (hf 0 (by omega)).2; rw [Nat.zero_mul] at this; exact this)
      have k0 := (hf i hi').2
      rw [add_none, add_none] at k0
      exact ⟨b, o, rfl, by simpa using k0⟩
    · obtain ⟨i, hi, rfl⟩ := List.mem_map.1 hy
      exact (hf i (by simpa using hi)).1
/-- As numbers lie, at any place. -/
def WordsAt (w : World) (v : Value) (l : List Nat) : Prop := ∃ a c, v = .slice a l.length c ∧ l.length ≤ c ∧ ∀ i (h : i < l.length), ∃ b o, a = some ⟨b, o, none⟩ ∧ w.cell? ⟨b, o + i, none⟩ = some (.int .u64 (l[i] : Nat))
theorem WordsAt.nil (w : World) : WordsAt w (.slice none 0 0) [] := ⟨none, 0, rfl, Nat.le_refl _, fun i hi => by simp at hi⟩
theorem WordsAt.len {w : World} {v : Value} {l : List Nat} (h : WordsAt w v l) : ∃ a c, v = .slice a l.length c := by
  obtain ⟨a, c, e, _⟩ := h
  exact ⟨a, c, e⟩
theorem WordsAt.below {w w' : World} {v : Value} {l : List Nat} (h : WordsAt w v l) (hb : Below w.heap.size w w') : WordsAt w' v l := by
  obtain ⟨a, c, e, hc, h1⟩ := h
  exact ⟨a, c, e, hc, fun i hi => by
    obtain ⟨b, o, e1, e2⟩ := h1 i hi
    exact ⟨b, o, e1, cell_below hb e2⟩⟩
theorem WordsAt.at {w : World} {a : Option Addr} {n c : Nat} {l : List Nat} (h : WordsAt w (.slice a n c) l) {i : Nat} (hi : i < l.length) : ∃ b o, a = some ⟨b, o, none⟩ ∧ w.cell? ⟨b, o + i, none⟩ = some (.int .u64 (l[i] : Nat)) := by
  obtain ⟨a', c', e, _, h1⟩ := h
  cases e
  exact h1 i hi
theorem open_words {H : Type} {enc : TypeId × Value → H} {W : World} {r : Reach} {base : Nat} {v : Value} {d : DataW H} {p : List MemPlace} (hv : Value.okWide Try.prog W r base 49 v)
    (h : DataW.Trod enc Try.prog W 0 (fun _ => true) true 49 v d p) : ∃ l, WordsAt W v l ∧ l.length < 9223372036854775808 ∧ ∀ x ∈ l, x < 18446744073709551616 := by
  obtain ⟨a0, len, cap, rfl⟩ := okWide_slice Try.underlying49 hv
  obtain ⟨fuel, hf⟩ := h
  rcases open_slice Try.underlying49 hf with ⟨hcs, _⟩ | ⟨a, len', cap', m, n, D, Pl, hcs, hb, hlc, hcm, hm, hx, hel⟩
  · simp [Value.cells] at hcs
    obtain ⟨rfl, rfl, rfl⟩ := hcs
    exact ⟨[], WordsAt.nil W, by simp, fun x h => by cases h⟩
  · simp [Value.cells] at hcs
    obtain ⟨rfl, rfl, rfl⟩ := hcs
    simp only [if_true] at hm
    subst hm
    rw [cellsU64] at hel
    have each : ∀ i, i < len → ∃ y : Nat, y < 18446744073709551616 ∧ W.cell? ((a.add (i * 1)).add 0) = some (.int .u64 (y : Nat)) := fun i hi => by
      obtain ⟨cs, h1, h2⟩ := hel i (by omega)
      obtain ⟨_, h3, h4⟩ := World.cells?_some h1
      obtain ⟨n0, e0, _, w0⟩ := DataW.trod_int Try.underlying24 h2
      subst e0
      obtain ⟨m0, rfl, l0⟩ := nat_u64 w0
      exact ⟨m0, l0, h4 0 (by omega)⟩
    obtain ⟨f, hf⟩ := choose_lt each
    refine ⟨(List.range len).map f, ⟨some a, _, by simp; rfl, by simpa using hlc, fun i hi => ?_⟩, by simp [maxLen] at hcm ⊢; omega, fun y hy => ?_⟩
    · have hi' : i < len := by simpa using hi
      obtain ⟨b, o, rfl⟩ := spot_none (by have := (hf 0 (by omega)).2; rw [Nat.zero_mul] at this; exact this)
      have k0 := (hf i hi').2
      rw [add_none, add_none] at k0
      exact ⟨b, o, rfl, by simpa using k0⟩
    · obtain ⟨i, hi, rfl⟩ := List.mem_map.1 hy
      exact (hf i (by simpa using hi)).1
end Go.Proofs.Ytmhjabodhgacnaa
