/- A row of sets that comes in. -/
import Derived.Test.YtocllbdfdmpopaaDoorG
import Derived.Deep.Slices
set_option maxRecDepth 100000
namespace Go.Proofs.YtocllbdfdmpopaaDoor
open Go.ChangeShapes Go.WideShapes Go.ChangeAt Go.RowKit Go.Deep

theorem add_none (b off n : Nat) : (⟨b, off, none⟩ : Addr).add n = ⟨b, off + n, none⟩ := by
  unfold Addr.add
  split
  · rename_i h; subst h; rfl
  · rfl
/-- Four cells that read as a set hold one. -/
theorem set_of_cells {H : Type} {enc : TypeId × Value → H} {W : World} {n : Nat} {cs : List Value} {x : DataW H × List MemPlace} (hl : cs.length = 4)
    (h : DataW.trod enc Tryd.prog W 0 (fun _ => true) true n 24 cs = some x) : ∃ s : BitVec 256, ∀ j, j < 4 → cs[j]? = some (.int .u64 (wd s j)) := by
  obtain ⟨xs, m, rfl, hx, _, hl2, hel⟩ := DataW.trod_array Tryd.underlying24 h
  rw [cellsU64] at hel
  have k0 := hel 0 (by omega)
  have k1 := hel 1 (by omega)
  have k2 := hel 2 (by omega)
  have k3 := hel 3 (by omega)
  match cs, hl, xs, hl2, k0, k1, k2, k3 with
  | [c0, c1, c2, c3], _, [x0, x1, x2, x3], _, k0, k1, k2, k3 =>
    simp at k0 k1 k2 k3
    obtain ⟨n0, e0, _, w0⟩ := DataW.trod_int Tryd.underlying22 k0
    obtain ⟨n1, e1, _, w1⟩ := DataW.trod_int Tryd.underlying22 k1
    obtain ⟨n2, e2, _, w2⟩ := DataW.trod_int Tryd.underlying22 k2
    obtain ⟨n3, e3, _, w3⟩ := DataW.trod_int Tryd.underlying22 k3
    simp at e0 e1 e2 e3
    subst e0 e1 e2 e3
    obtain ⟨m0, rfl, l0⟩ := nat_u64 w0
    obtain ⟨m1, rfl, l1⟩ := nat_u64 w1
    obtain ⟨m2, rfl, l2⟩ := nat_u64 w2
    obtain ⟨m3, rfl, l3⟩ := nat_u64 w3
    obtain ⟨s, s0, s1, s2, s3⟩ := setV_mk m0 m1 m2 m3 l0 l1 l2 l3
    refine ⟨s, fun j hj => ?_⟩
    match j, hj with
    | 0, _ => rw [s0]; rfl
    | 1, _ => rw [s1]; rfl
    | 2, _ => rw [s2]; rfl
    | 3, _ => rw [s3]; rfl
theorem open_sets {H : Type} {enc : TypeId × Value → H} {W : World} {r : Reach} {base : Nat} {v : Value} {d : DataW H} {p : List MemPlace} (hv : Value.okWide Tryd.prog W r base 38 v)
    (h : DataW.Trod enc Tryd.prog W 0 (fun _ => true) true 38 v d p) : ∃ l, Sl W v l := by
  obtain ⟨a0, len, cap, rfl⟩ := okWide_slice Tryd.underlying38 hv
  obtain ⟨fuel, hf⟩ := h
  rcases open_slice Tryd.underlying38 hf with ⟨hcs, _⟩ | ⟨a, len', cap', m, n, D, Pl, hcs, hb, hlc, hcm, hm, hx, hel⟩
  · simp [Value.cells] at hcs
    obtain ⟨rfl, rfl, rfl⟩ := hcs
    exact ⟨[], by simp [maxLen], .inl ⟨rfl, _, _, rfl⟩⟩
  · simp [Value.cells] at hcs
    obtain ⟨rfl, rfl, rfl⟩ := hcs
    simp only [if_true] at hm
    subst hm
    rw [cellsSet] at hel
    have each : ∀ i, i < len → ∃ s : BitVec 256, ∀ j, j < 4 → W.cell? ((a.add (i * 4)).add j) = some (.int .u64 (wd s j)) := fun i hi => by
      obtain ⟨cs, h1, h2⟩ := hel i (by omega)
      obtain ⟨_, h3, h4⟩ := World.cells?_some h1
      obtain ⟨s, hs⟩ := set_of_cells h3 h2
      exact ⟨s, fun j hj => by rw [h4 j hj]; exact hs j hj⟩
    rcases Nat.eq_zero_or_pos len with h0 | h0
    · subst h0
      exact ⟨[], by simp [maxLen], .inl ⟨rfl, _, _, rfl⟩⟩
    · have hsp : a.spot = none := by
        obtain ⟨s, hs⟩ := each 0 h0
        have := hs 0 (by omega)
        simp only [Nat.zero_mul, Addr.add, if_true] at this
        unfold World.cell? at this
        split at this
        · split at this
          · cases this
          · rename_i hn; simpa using hn
        · cases this
      obtain ⟨b, off, sp⟩ := a
      subst hsp
      have hbl : b < W.heap.size := by
        obtain ⟨s, hs⟩ := each 0 h0
        have := hs 0 (by omega)
        rw [add_none, add_none] at this
        obtain ⟨o, ho, _⟩ := cells_of_cell this
        exact (Array.getElem?_eq_some_iff.1 ho).1
      have build : ∀ n, n ≤ len → ∃ l : List (BitVec 256), l.length = n ∧ ∀ i (_ : i < l.length), ∀ j, j < 4 → W.cell? ⟨b, off + i * 4 + j, none⟩ = some (.int .u64 (wd l[i] j)) := by
        intro n
        induction n with
        | zero => intro _; exact ⟨[], rfl, fun i hi => by simp at hi⟩
        | succ n ih =>
          intro hn
          obtain ⟨l, hl, hc⟩ := ih (by omega)
          obtain ⟨s, hs⟩ := each n (by omega)
          refine ⟨l ++ [s], by simp [hl], fun i hi j hj => ?_⟩
          by_cases e : i < l.length
          · rw [List.getElem_append_left e]; exact hc i e j hj
          · have : i = n := by simp at hi; omega
            subst this
            have := hs j hj
            rw [add_none, add_none] at this
            rw [this]
            congr 3
            rw [List.getElem_append_right (by omega)]
            simp
      obtain ⟨l, hl, hc⟩ := build len (Nat.le_refl _)
      exact ⟨l, by omega, .inr ⟨b, off, _, by rw [hl], hbl, hc⟩⟩
end Go.Proofs.YtocllbdfdmpopaaDoor
