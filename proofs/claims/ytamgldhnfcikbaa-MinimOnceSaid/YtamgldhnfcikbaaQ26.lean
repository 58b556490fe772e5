/- Texts that a proof rests on: What comes in: machines. | The walk of MinimLeast. | The least machine may be a machine, all of its states are of use, and it is its own least machine. | Where a text leads, and whether a machine ends it. | The walk of MinimOnce. -/
import Derived.Test.YtamgldhnfcikbaaQ25
import Derived.ProofKit
import Derived.OpenShut
import Derived.Stop.Joined
import Derived.Lib.SmallJoins
import Derived.Deep.Slices
set_option maxRecDepth 100000
namespace Go.Proofs.Ytamgldhnfcikbaa
open Go.ChangeShapes Go.WideShapes Go.ChangeAt Go.RowKit Go.Deep

theorem own : ownKnob Try.prog.godebug = none := by kernel_rfl
theorem laidOut : laidOutB Try.prog = true := by kernel_rfl
theorem cellsArc : Try.prog.cellsOf 38 = 3 := by kernel_rfl
theorem cellsSta : Try.prog.cellsOf 42 = 2 := by kernel_rfl
theorem cellsU8 : Try.prog.cellsOf 5 = 1 := by kernel_rfl
theorem cellsU64 : Try.prog.cellsOf 40 = 1 := by kernel_rfl
theorem cellsInt : Try.prog.cellsOf 3 = 1 := by kernel_rfl
theorem cellsArcs : Try.prog.cellsOf 39 = 1 := by kernel_rfl
theorem add_none (b off n : Nat) : (⟨b, off, none⟩ : Addr).add n = ⟨b, off + n, none⟩ := by
  unfold Addr.add
  split
  · rename_i h; subst h; rfl
  · rfl
theorem spot_none {W : World} {a : Addr} {v : Value} (h : W.cell? ((a.add 0).add 0) = some v) : ∃ b o, a = ⟨b, o, none⟩ := by
  obtain ⟨b, off, sp⟩ := a
  simp only [Addr.add, if_true] at h
  unfold World.cell? at h
  split at h
  · split at h
    · cases h
    · rename_i hn
      obtain rfl : sp = none := by simpa using hn
      exact ⟨_, _, rfl⟩
  · cases h
theorem nat_u8 {n : Int} (h : (Lit.int .u8 n).wf = true) : ∃ m : Nat, n = m ∧ m < 256 := by
  have h2 := bounds_u8 h
  exact ⟨n.toNat, by omega, by omega⟩
theorem nat_u64 {n : Int} (h : (Lit.int .u64 n).wf = true) : ∃ m : Nat, n = m ∧ m < 18446744073709551616 := by
  have h2 := bounds_u64 h
  exact ⟨n.toNat, by omega, by omega⟩
instance : Inhabited Arc3 := ⟨⟨0, 0, 0⟩⟩
instance : Inhabited Sta := ⟨⟨0, []⟩⟩
section
variable {H : Type} {enc : TypeId × Value → H} {W : World} {base : Nat} {sp : Nat → Bool} {hd : Bool}
theorem arc_of_cells {n : Nat} {cs : List Value} {x : DataW H × List MemPlace} (hl : cs.length = 3) (h : DataW.trod enc Try.prog W base sp hd n 38 cs = some x) :
    ∃ a : Arc3, a.may ∧ cs = [.int .u8 a.lo, .int .u8 a.hi, .int .i64 a.dest] := by
  obtain ⟨xs, m, rfl, hx, _, hl2, hel⟩ := DataW.trod_struct Try.underlying38 h
  match cs, hl, xs, hl2 with
  | [c0, c1, c2], _, [x0, x1, x2], _ =>
    have k0 := hel 0 _ rfl
    have k1 := hel 1 _ rfl
    have k2 := hel 2 _ rfl
    simp [cellsU8] at k0 k1
    simp [cellsInt] at k2
    obtain ⟨n0, e0, _, w0⟩ := DataW.trod_int Try.underlying5 k0
    obtain ⟨n1, e1, _, w1⟩ := DataW.trod_int Try.underlying5 k1
    obtain ⟨n2, e2, _, w2⟩ := DataW.trod_int Try.underlying3 k2
    simp at e0 e1 e2
    subst e0 e1 e2
    obtain ⟨m0, rfl, l0⟩ := nat_u8 w0
    obtain ⟨m1, rfl, l1⟩ := nat_u8 w1
    have b2 := bounds_i64 w2
    exact ⟨⟨m0, m1, n2⟩, ⟨l0, l1, by show -9223372036854775808 ≤ n2; omega, by show n2 < 9223372036854775808; omega⟩, rfl⟩
theorem open_arcs {n : Nat} {v : Value} {x : DataW H × List MemPlace} (h : DataW.trod enc Try.prog W base sp hd n 39 [v] = some x) : ∃ l, ArcsAt W v l ∧ l.length < 9223372036854775808 ∧ ∀ a ∈ l, a.may := by
  rcases open_slice Try.underlying39 h with ⟨hcs, _⟩ | ⟨a, len, cap, m, n, D, Pl, hcs, hb, hlc, hcm, hm, hx, hel⟩
  · simp at hcs
    subst hcs
    exact ⟨[], ArcsAt.nil W, by simp, fun a h => by cases h⟩
  · simp at hcs
    subst hcs
    rw [cellsArc] at hel
    have hlm : len ≤ m := by rw [hm]; split <;> omega
    have each : ∀ i, i < len → ∃ y : Arc3, y.may ∧ ∀ j, j < 3 → W.cell? ((a.add (i * 3)).add j) = [Value.int .u8 y.lo, .int .u8 y.hi, .int .i64 y.dest][j]? := fun i hi => by
      obtain ⟨cs, h1, h2⟩ := hel i (by omega)
      obtain ⟨_, h3, h4⟩ := World.cells?_some h1
      obtain ⟨y, hy, rfl⟩ := arc_of_cells h3 h2
      exact ⟨y, hy, h4⟩
    obtain ⟨f, hf⟩ := choose_lt each
    refine ⟨(List.range len).map f, ⟨some a, cap, by simp, fun i hi => ?_⟩, by simp [maxLen] at hcm ⊢; omega, fun y hy => ?_⟩
    · have hi' : i < len := by simpa using hi
      obtain ⟨b, o, rfl⟩ := spot_none (by have := (hf 0 (by omega)).2 0 (by omega); rw [Nat.zero_mul] at this; exact this)
      have k0 := (hf i hi').2 0 (by omega)
      have k1 := (hf i hi').2 1 (by omega)
      have k2 := (hf i hi').2 2 (by omega)
      rw [add_none, add_none] at k0 k1 k2
      refine ⟨b, o, rfl, ?_, ?_, ?_⟩
      · simpa using k0
      · simpa using k1
      · simpa using k2
    · obtain ⟨i, hi, rfl⟩ := List.mem_map.1 hy
      exact (hf i (by simpa using hi)).1
theorem sta_of_cells {n : Nat} {cs : List Value} {x : DataW H × List MemPlace} (hl : cs.length = 2) (h : DataW.trod enc Try.prog W base sp hd n 42 cs = some x) :
    ∃ (s : Sta) (v : Value), s.may ∧ s.arcs.length < 9223372036854775808 ∧ cs = [.int .u64 s.acc, v] ∧ ArcsAt W v s.arcs := by
  obtain ⟨xs, m, rfl, hx, _, hl2, hel⟩ := DataW.trod_struct Try.underlying42 h
  match cs, hl, xs, hl2 with
  | [c0, c1], _, [x0, x1], _ =>
    have k0 := hel 0 _ rfl
    have k1 := hel 1 _ rfl
    simp [cellsU64] at k0
    simp [cellsArcs] at k1
    obtain ⟨n0, e0, _, w0⟩ := DataW.trod_int Try.underlying40 k0
    simp at e0
    subst e0
    obtain ⟨m0, rfl, l0⟩ := nat_u64 w0
    obtain ⟨l, hA, hlen, hmay⟩ := open_arcs k1
    exact ⟨⟨m0, l⟩, c1, ⟨l0, hmay⟩, hlen, rfl, hA⟩
end
theorem open_mach {H : Type} {enc : TypeId × Value → H} {W : World} {r : Reach} {base : Nat} {v : Value} {d : DataW H} {p : List MemPlace} (hv : Value.okWide Try.prog W r base 23 v)
    (h : DataW.Trod enc Try.prog W 0 (fun _ => true) true 23 v d p) : ∃ m, MachAt W v m ∧ m.length < 9223372036854775808 ∧ (∀ s ∈ m, s.arcs.length < 9223372036854775808) ∧ Mays m := by
  obtain ⟨a0, len, cap, rfl⟩ := okWide_slice Try.underlying23 hv
  obtain ⟨fuel, hf⟩ := h
  rcases open_slice Try.underlying23 hf with ⟨hcs, _⟩ | ⟨a, len', cap', m, n, D, Pl, hcs, hb, hlc, hcm, hm, hx, hel⟩
  · simp [Value.cells] at hcs
    obtain ⟨rfl, rfl, rfl⟩ := hcs
    exact ⟨[], MachAt.nil W, by simp, fun s h => (by cases h), fun s h => (by cases h)⟩
  · simp [Value.cells] at hcs
    obtain ⟨rfl, rfl, rfl⟩ := hcs
    simp only [if_true] at hm
    subst hm
    rw [cellsSta] at hel
    have each : ∀ i, i < len → ∃ y : Sta × Value, y.1.may ∧ y.1.arcs.length < 9223372036854775808 ∧ (∀ j, j < 2 → W.cell? ((a.add (i * 2)).add j) = [Value.int .u64 y.1.acc, y.2][j]?) ∧ ArcsAt W y.2 y.1.arcs := fun i hi => by
      obtain ⟨cs, h1, h2⟩ := hel i (by omega)
      obtain ⟨_, h3, h4⟩ := World.cells?_some h1
      obtain ⟨s, u, hs, hl, rfl, hA⟩ := sta_of_cells h3 h2
      exact ⟨(s, u), hs, hl, h4, hA⟩
    obtain ⟨f, hf⟩ := choose_lt each
    refine ⟨(List.range len).map fun i => (f i).1, ⟨some a, _, by simp; rfl, fun i hi => ?_⟩, by simp [maxLen] at hcm ⊢; omega, fun y hy => ?_, fun y hy => ?_⟩
    · have hi' : i < len := by simpa using hi
      obtain ⟨b, o, rfl⟩ := spot_none (by have := (hf 0 (by omega)).2.2.1 0 (by omega); rw [Nat.zero_mul] at this; exact this)
      have k0 := (hf i hi').2.2.1 0 (by omega)
      have k1 := (hf i hi').2.2.1 1 (by omega)
      rw [add_none, add_none] at k0 k1
      refine ⟨b, o, (f i).2, rfl, ?_, ?_, ?_⟩
      · simpa using k0
      · simpa using k1
      · simpa using (hf i hi').2.2.2
    · obtain ⟨i, hi, rfl⟩ := List.mem_map.1 hy
      exact (hf i (by simpa using hi)).2.1
    · obtain ⟨i, hi, rfl⟩ := List.mem_map.1 hy
      exact (hf i (by simpa using hi)).1
end Go.Proofs.Ytamgldhnfcikbaa
set_option maxRecDepth 100000
namespace Go.Proofs.Ytamgldhnfcikbaa
open Go.RowKit

theorem arcsS_len (f : Nat → Int) : (arcsS f).length ≤ 256 := by
  unfold arcsS
  exact arcsUp_len f 256
theorem least_size {m K : List Sta} (hm : Mays m) (h : LeastP m K) : K.length ≤ m.length ∧ ∀ s ∈ K, s.arcs.length ≤ 256 := by
  rcases h with ⟨_, rfl⟩ | ⟨hs, h0, U, hU, h⟩
  · exact ⟨Nat.zero_le _, fun s hs => by cases hs⟩
  · have hf := (sound_len hm (by rw [hs]; exact h0)).2.1
    rcases h with ⟨_, _, rfl⟩ | ⟨_, hk, C, i, hC, hCn, hw, rfl⟩
    · exact ⟨Nat.zero_le _, fun s hs => by cases hs⟩
    · have hft := trim_fits U hf
      have hlt := walkK_lt (key := C) (next := nextP (trimS U m)) (s0 := 0) (n := (trimS U m).length) hk (fun s b y hs _ h => nextP_lt hft hs h) i
      have hn := keys_len (walkK_nodup (nextP (trimS U m)) C 0 i) hlt hCn
      refine ⟨?_, fun s hs => ?_⟩
      · unfold leastK
        rw [List.length_map]
        exact Nat.le_trans hn (trim_len_le U m)
      · unfold leastK at hs
        obtain ⟨x, _, rfl⟩ := List.mem_map.1 hs
        exact arcsS_len (gK (nextP (trimS U m)) C (walkK (nextP (trimS U m)) C 0 i) x)
noncomputable def useL (m : List Sta) : List Bool := (List.range m.length).map fun s => @decide (Leads m s ∧ Come m s) (Classical.propDecidable _)
theorem use_eq {m : List Sta} {S : Nat → Bool} (h : ∀ s, s < m.length → (S s = true ↔ Leads m s ∧ Come m s)) : (List.range m.length).map S = useL m := by
  unfold useL
  refine List.map_congr_left fun s hs => ?_
  rw [Bool.eq_iff_iff, h s (List.mem_range.1 hs)]
  exact (@decide_eq_true_iff _ (Classical.propDecidable _)).symm
theorem puse_rdv (v : Value) (m : List Sta) (w : World) (hv : MachAt w v m) (hl : ∀ s ∈ m, s.arcs.length < 9223372036854775808) (hm : Mays m) :
    Calls Try.prog 11 #[v] w fun e w' => ∃ u, e = .returned u ∧ Hid (RdV w' u ((useL (soundS m)).map Value.bool)) ∧ Hid (Below w.heap.size w w') :=
  (puseful_wide v m w hv hl hm).mono fun e w' ⟨hb, hp⟩ => by
    rcases hp with ⟨h0, he⟩ | ⟨_, b, S, he, _, hbk, hS⟩
    · refine ⟨_, he, Lib.hid ?_, hb⟩
      have : soundS m = [] := List.eq_nil_of_length_eq_zero h0
      rw [this]
      exact .inl ⟨rfl, rfl⟩
    · refine ⟨_, he, Lib.hid ?_, hb⟩
      have h := blk_rdv hbk.out
      rw [use_eq hS.out] at h
      exact h
theorem useL_len (m : List Sta) : (useL m).length = m.length := by unfold useL; rw [List.length_map, List.length_range]
end Go.Proofs.Ytamgldhnfcikbaa
set_option maxRecDepth 100000
namespace Go.Proofs.Ytamgldhnfcikbaa
open Go.RowKit

theorem arcsUp_dest (f : Nat → Int) (b : Nat) : ∀ x ∈ arcsUp f b, ∃ c, c < b ∧ x.dest = f c := by
  induction b with
  | zero => intro x hx; cases hx
  | succ b ih =>
    intro x hx
    have hx : x ∈ arcPut (arcsUp f b) b (f b) := hx
    have old : ∀ x ∈ arcsUp f b, ∃ c, c < b + 1 ∧ x.dest = f c := fun x h => by
      obtain ⟨c, h1, h2⟩ := ih x h
      exact ⟨c, by omega, h2⟩
    unfold arcPut at hx
    split at hx
    · exact old x hx
    · split at hx
      · split at hx
        · rcases List.mem_append.1 hx with h | h
          · exact old x (List.dropLast_subset _ h)
          · rw [List.mem_singleton] at h; subst h; exact ⟨b, by omega, rfl⟩
        · rcases List.mem_append.1 hx with h | h
          · exact old x h
          · rw [List.mem_singleton] at h; subst h; exact ⟨b, by omega, rfl⟩
      · rcases List.mem_append.1 hx with h | h
        · exact old x h
        · rw [List.mem_singleton] at h; subst h; exact ⟨b, by omega, rfl⟩
theorem rise_append {l : List Arc3} {a : Arc3} (h : l.Pairwise Rise) (hlo : ∀ x ∈ l, x.lo ≤ x.hi) (hl : ∀ x, l.getLast? = some x → Rise x a) (ha : ∀ x ∈ l, x.hi < a.lo) : (l ++ [a]).Pairwise Rise := by
  rw [List.pairwise_append]
  refine ⟨h, List.pairwise_singleton _ _, fun x hx y hy => ?_⟩
  rw [List.mem_singleton] at hy
  subst hy
  rcases List.eq_nil_or_concat l with rfl | ⟨l0, z, rfl⟩
  · cases hx
  · rw [List.concat_eq_append] at *
    have hz := hl z (by simp)
    rcases List.mem_append.1 hx with h1 | h1
    · have h2 := (List.pairwise_append.1 h).2.2 x h1 z (by simp)
      refine ⟨ha x hx, fun e => ?_⟩
      have h3 := hz.1
      have h4 := h2.1
      have h5 := hlo z (by simp)
      omega
    · rw [List.mem_singleton] at h1; subst h1; exact hz
theorem arcsUp_rise (f : Nat → Int) (b : Nat) : (arcsUp f b).Pairwise Rise := by
  induction b with
  | zero => exact List.Pairwise.nil
  | succ b ih =>
    have hb := arcsUp_last f b
    show (arcPut (arcsUp f b) b (f b)).Pairwise Rise
    unfold arcPut
    split
    · exact ih
    · rename_i h0
      split
      · rename_i z hz
        have hzm := List.mem_of_getLast? hz
        split
        · rename_i he
          obtain ⟨l0, hl0⟩ := List.getLast?_eq_some_iff.1 hz
          have hdl : (arcsUp f b) = (arcsUp f b).dropLast ++ [z] := by rw [hl0, List.dropLast_concat]
          have ih2 := ih
          rw [hdl] at ih2
          have h1 := List.pairwise_append.1 ih2
          rw [List.pairwise_append]
          refine ⟨h1.1, List.pairwise_singleton _ _, fun x hx y hy => ?_⟩
          rw [List.mem_singleton] at hy
          subst hy
          have h2 := h1.2.2 x hx z (by simp)
          exact ⟨h2.1, fun e => by have h3 := h2.2 e; rw [he.2] at h3; exact h3⟩
        · rename_i he
          refine rise_append ih (fun x hx => (hb x hx).1) (fun x hx => ?_) (fun x hx => (hb x hx).2.1)
          rw [hz] at hx
          cases hx
          exact ⟨(hb z hzm).2.1, fun e e2 => he ⟨e, e2.symm⟩⟩
      · rename_i hz
        refine rise_append ih (fun x hx => (hb x hx).1) (fun x hx => ?_) (fun x hx => (hb x hx).2.1)
        rw [hz] at hx; cases hx
theorem arcsS_fits {f : Nat → Int} {n : Nat} (h : ∀ b, b < 256 → f b < n) : fitsB n (arcsS f) = true ∧ ∀ a ∈ arcsS f, a.hi < 256 := by
  unfold arcsS
  refine ⟨fits_of (fun a ha => ?_) (arcsUp_rise f 256), fun a ha => (arcsUp_last f 256 a ha).2.1⟩
  have h1 := arcsUp_last f 256 a ha
  obtain ⟨c, hc, e⟩ := arcsUp_dest f 256 a ha
  exact ⟨h1.1, h1.2.2, by rw [e]; exact h c hc⟩
theorem leastK_fits {acc : Nat → Nat} {next : Nat → Nat → Option Nat} {key : Nat → Nat} {L : List Nat} (hc : ClosedK next key L) : Fits (leastK acc next key L) := by
  have hlen : (leastK acc next key L).length = L.length := by unfold leastK; rw [List.length_map]
  intro i hi
  have hiL : i < L.length := by rw [← hlen]; exact hi
  have h1 := leastK_at (acc := acc) (next := next) (key := key) (List.getElem?_eq_getElem hiL)
  rw [List.getElem?_eq_getElem hi] at h1
  rw [Option.some.inj h1, hlen]
  refine arcsS_fits fun b hb => ?_
  unfold toK
  cases e : next L[i] b with
  | none => show (-1 : Int) < _; omega
  | some y =>
    have := numK_lt (hc _ (List.getElem_mem hiL) b hb y e)
    show ((numK key L y : Nat) : Int) < _
    omega
theorem leastK_mays {m : List Sta} {next : Nat → Nat → Option Nat} {key : Nat → Nat} {L : List Nat} (hm : Mays m) (hL : ∀ s ∈ L, s < m.length) (hn : L.length ≤ 4096) (hc : ClosedK next key L) : Mays (leastK (accAt m) next key L) := by
  have hf := leastK_fits (acc := accAt m) hc
  have hlen : (leastK (accAt m) next key L).length = L.length := by unfold leastK; rw [List.length_map]
  intro z hz
  obtain ⟨i, hi, rfl⟩ := List.getElem_of_mem hz
  refine ⟨?_, fun a ha => ?_⟩
  · have hiL : i < L.length := by rw [← hlen]; exact hi
    have h1 := leastK_at (acc := accAt m) (next := next) (key := key) (List.getElem?_eq_getElem hiL)
    rw [List.getElem?_eq_getElem hi] at h1
    rw [Option.some.inj h1]
    show accS m ((L[i] : Nat) : Int) < _
    rw [accS_at (hL _ (List.getElem_mem hiL))]
    exact (hm _ (List.getElem_mem _)).1
  · obtain ⟨h1, h2, h3, h4⟩ := hf.ok hi ha
    rw [hlen] at h3
    exact ⟨by omega, h4, by omega, by omega⟩
def Fr (next : Nat → Nat → Option Nat) (L : List Nat) : Prop := ∀ j y, L[j]? = some y → j = 0 ∨ ∃ k s b, k < j ∧ L[k]? = some s ∧ b < 256 ∧ next s b = some y
theorem row_fr {next : Nat → Nat → Option Nat} {key : Nat → Nat} {L : List Nat} {s k0 : Nat} (hs : L[k0]? = some s) (hL : Fr next L) : ∀ b, b ≤ 256 → Fr next (rowK next key L s b)
  | 0, _ => hL
  | b + 1, hb => by
    have ih := row_fr (key := key) hs hL b (by omega)
    rw [rowK]
    cases e : next s b with
    | none => exact ih
    | some y =>
      show Fr next (pushK key (rowK next key L s b) y)
      by_cases hm : key y ∈ (rowK next key L s b).map key
      · rw [pushK_old hm]; exact ih
      · rw [pushK_new hm]
        intro j z hj
        by_cases hlt : j < (rowK next key L s b).length
        · rw [List.getElem?_append_left hlt] at hj
          rcases ih j z hj with h | ⟨k, s2, b2, h1, h2, h3, h4⟩
          · exact .inl h
          · exact .inr ⟨k, s2, b2, h1, by rw [List.getElem?_append_left (by omega)]; exact h2, h3, h4⟩
        · rw [List.getElem?_append_right (by omega)] at hj
          obtain ⟨h1, h2⟩ := List.getElem?_eq_some_iff.1 hj
          have hz : z = y := by rw [← h2]; simp
          subst hz
          obtain ⟨M, hM⟩ := rowK_more next key L s 0 b
          rw [Nat.zero_add, show rowK next key L s 0 = L from rfl] at hM
          have hk0 := (List.getElem?_eq_some_iff.1 hs).1
          refine .inr ⟨k0, s, b, ?_, ?_, by omega, e⟩
          · rw [hM, List.length_append] at hlt; omega
          · rw [hM, List.append_assoc, List.getElem?_append_left hk0]; exact hs
theorem walk_fr (next : Nat → Nat → Option Nat) (key : Nat → Nat) (s0 : Nat) : ∀ i, Fr next (walkK next key s0 i)
  | 0 => fun j y hj => by
    have h := (List.getElem?_eq_some_iff.1 hj).1
    simp [walkK] at h
    exact .inl h
  | i + 1 => by
    have ih := walk_fr next key s0 i
    rw [walkK]
    cases e : (walkK next key s0 i)[i]? with
    | none => exact ih
    | some s => exact row_fr e ih 256 (Nat.le_refl _)
theorem numK_self {key : Nat → Nat} {L : List Nat} {j y : Nat} (hd : (L.map key).Nodup) (h : L[j]? = some y) : numK key L y = j := by
  have hm : key y ∈ L.map key := List.mem_map.2 ⟨y, List.mem_of_getElem? h, rfl⟩
  obtain ⟨z, hz, e⟩ := numK_at hm
  have h1 : (L.map key)[numK key L y]? = some (key y) := by rw [List.getElem?_map, hz, Option.map_some, e]
  have h2 : (L.map key)[j]? = some (key y) := by rw [List.getElem?_map, h, Option.map_some]
  obtain ⟨a1, a2⟩ := List.getElem?_eq_some_iff.1 h1
  obtain ⟨b1, b2⟩ := List.getElem?_eq_some_iff.1 h2
  have hp := List.pairwise_iff_getElem.1 hd
  rcases Nat.lt_trichotomy (numK key L y) j with h | h | h
  · exact absurd (a2.trans b2.symm) (hp _ _ a1 b1 h)
  · exact h
  · exact absurd (b2.trans a2.symm) (hp _ _ b1 a1 h)
theorem leastK_come {acc : Nat → Nat} {next : Nat → Nat → Option Nat} {key : Nat → Nat} {L : List Nat} (hd : (L.map key).Nodup) (hfr : Fr next L) : ∀ n j, j < n → j < L.length → Come (leastK acc next key L) j
  | 0, _, h, _ => by omega
  | n + 1, j, hj, hl => by
    have hlen : (leastK acc next key L).length = L.length := by unfold leastK; rw [List.length_map]
    rcases hfr j L[j] (List.getElem?_eq_getElem hl) with rfl | ⟨k, s, b, h1, h2, h3, h4⟩
    · exact .first (by omega)
    · have ih := leastK_come (acc := acc) hd hfr n k (by omega) (by omega)
      have hn := leastK_next (acc := acc) (next := next) (key := key) h2 h3
      unfold toK at hn
      rw [h4] at hn
      have hn : nextS (leastK acc next key L) (k : Nat) b = (numK key L L[j] : Nat) := hn
      rw [numK_self hd (List.getElem?_eq_getElem hl), nextS_at (by omega)] at hn
      rcases firstTo_in (leastK acc next key L)[k].arcs b with e | ⟨a, ha, _, e⟩
      · omega
      · have h9 := Come.step (by omega) ha ih
        rw [← e, hn] at h9
        exact h9
theorem once_math {m K : List Sta} (hm : Mays m) (h : LeastP m K) : soundS K = K ∧ Mays K ∧ (∀ s, s < K.length → Leads K s ∧ Come K s) ∧ ∀ K2, LeastP K K2 → K2 = K := by
  have hnil : soundS ([] : List Sta) = [] ∧ Mays [] ∧ (∀ s, s < ([] : List Sta).length → Leads [] s ∧ Come [] s) ∧ ∀ K2, LeastP [] K2 → K2 = [] := by
    refine ⟨nil_sound, fun s hs => (by cases hs), fun s hs => (by simp at hs), fun K2 h2 => ?_⟩
    rcases h2 with ⟨_, e⟩ | ⟨_, h0, _⟩
    · exact e
    · simp at h0
  rcases h with ⟨_, rfl⟩ | ⟨hs, h0, U, hU, h⟩
  · exact hnil
  · obtain ⟨_, hf, hn4, _⟩ := sound_len hm (by rw [hs]; exact h0)
    rcases h with ⟨_, _, rfl⟩ | ⟨hU0, hk, C, i, hC, hCn, hw, hK⟩
    · exact hnil
    · have hft := trim_fits U hf
      have hlt := walkK_lt (key := C) (next := nextP (trimS U m)) (s0 := 0) (n := (trimS U m).length) hk (fun s b y hs _ h => nextP_lt hft hs h) i
      have hnd := walkK_nodup (nextP (trimS U m)) C 0 i
      have hln := keys_len hnd hlt hCn
      have htl := trim_len_le U m
      have hcl := walkK_closed hw
      have hal : ∀ {j s : Nat}, (walkK (nextP (trimS U m)) C 0 i)[j]? = some s → AlikeS (leastK (accAt (trimS U m)) (nextP (trimS U m)) C (walkK (nextP (trimS U m)) C 0 i)) (trimS U m) (j : Nat) (s : Nat) := fun {j s} hj =>
        leastK_alike (fun s _ => rfl) (fun s hs b _ hn => by
          rcases next_cases hft (hlt s hs) b with ⟨_, e⟩ | ⟨y, e, _⟩
          · rw [e]; exact dead_below (by decide)
          · rw [hn] at e; cases e) (fun s hs b _ y hy => by
          rcases next_cases hft (hlt s hs) b with ⟨e, _⟩ | ⟨z, e, e2, _⟩
          · rw [hy] at e; cases e
          · rw [hy] at e; cases e
            rw [e2]; exact AlikeS.refl _ _) (fun s hs t ht b _ y hy hk2 => (hC s y (hlt s hs) (nextP_lt hft (hlt t ht) hy)).1 hk2) hcl hj
      have hfK := leastK_fits (acc := accAt (trimS U m)) hcl
      have hmK := leastK_mays (trim_mays U hm hn4) hlt (by omega) hcl
      have hcK := leastK_come (acc := accAt (trimS U m)) hnd (walk_fr _ _ _ i)
      have hlen : (leastK (accAt (trimS U m)) (nextP (trimS U m)) C (walkK (nextP (trimS U m)) C 0 i)).length = (walkK (nextP (trimS U m)) C 0 i).length := by unfold leastK; rw [List.length_map]
      have hpos : 0 < (walkK (nextP (trimS U m)) C 0 i).length := (List.getElem?_eq_some_iff.1 (walkK_first (nextP (trimS U m)) C 0 i)).1
      have h00 := hal (walkK_first _ _ _ i)
      have huse : ∀ s, s < (walkK (nextP (trimS U m)) C 0 i).length → Leads (leastK (accAt (trimS U m)) (nextP (trimS U m)) C (walkK (nextP (trimS U m)) C 0 i)) s ∧ Come (leastK (accAt (trimS U m)) (nextP (trimS U m)) C (walkK (nextP (trimS U m)) C 0 i)) s := fun s hs2 => by
        refine ⟨(hfK.leads (by omega)).2 fun hd => ?_, hcK (s + 1) s (by omega) hs2⟩
        have h1 := hal (List.getElem?_eq_getElem hs2)
        exact hU.alive hf _ (hlt _ (List.getElem_mem hs2)) (h1.dead.1 hd)
      rw [← hK] at hfK hmK hal hlen h00 huse
      have hsK : soundS K = K := by
        unfold soundS
        rw [if_pos (check_yes (by omega) fun j hj => (hfK j hj).1)]
      refine ⟨hsK, hmK, fun s hs2 => huse s (by omega), fun K2 h2 => ?_⟩
      rcases h2 with ⟨h9, _⟩ | ⟨_, _, U2, hU2, h2⟩
      · rw [hsK] at h9; omega
      · have hU20 : U2 0 = true := (hU2 0 (by omega)).2 (huse 0 hpos)
        rcases h2 with ⟨e, _⟩ | ⟨_, hk2, C2, i2, hC2, _, hw2, hK2⟩
        · rw [hU20] at e; cases e
        · have hft2 := trim_fits U2 hfK
          have ha2 := hU2.alike hfK hU20 (by omega)
          have hR : ∀ s t s' t' : Nat, (s < (trimS U2 K).length ∧ t < (trimS U m).length ∧ AlikeS (trimS U2 K) (trimS U m) (s : Nat) (t : Nat)) → (s' < (trimS U2 K).length ∧ t' < (trimS U m).length ∧ AlikeS (trimS U2 K) (trimS U m) (s' : Nat) (t' : Nat)) → (C2 s = C2 s' ↔ C t = C t') := fun s t s' t' ⟨a1, a2, a3⟩ ⟨b1, b2, b3⟩ => by
            rw [hC2 s s' a1 b1, hC t t' a2 b2]
            exact ⟨fun e => a3.symm.trans (e.trans b3), fun e => a3.trans (e.trans b3.symm)⟩
          have hN : ∀ s t : Nat, (s < (trimS U2 K).length ∧ t < (trimS U m).length ∧ AlikeS (trimS U2 K) (trimS U m) (s : Nat) (t : Nat)) → ∀ b, b < 256 → (nextP (trimS U2 K) s b = none ∧ nextP (trimS U m) t b = none) ∨ ∃ x y, nextP (trimS U2 K) s b = some x ∧ nextP (trimS U m) t b = some y ∧ (x < (trimS U2 K).length ∧ y < (trimS U m).length ∧ AlikeS (trimS U2 K) (trimS U m) (x : Nat) (y : Nat)) := fun s t ⟨a1, a2, a3⟩ b hb => by
            have hg := a3.next hb
            rcases next_cases hft2 a1 b with ⟨e1, e2⟩ | ⟨x, e1, e2, hx⟩
            · rcases next_cases hft a2 b with ⟨e3, _⟩ | ⟨y, _, e4, hy⟩
              · exact .inl ⟨e1, e3⟩
              · rw [e2, e4] at hg
                exact absurd (hg.dead.1 (dead_below (by decide))) (hU.alive hf y hy)
            · rcases next_cases hft a2 b with ⟨_, e4⟩ | ⟨y, e3, e4, hy⟩
              · rw [e2, e4] at hg
                exact absurd (hg.dead.2 (dead_below (by decide))) (hU2.alive hfK x hx)
              · rw [e2, e4] at hg
                exact .inr ⟨x, y, e1, e3, hx, hy, hg⟩
          have hl : 0 < (trimS U2 K).length ∧ 0 < (trimS U m).length ∧ AlikeS (trimS U2 K) (trimS U m) ((0 : Nat) : Int) ((0 : Nat) : Int) := ⟨hk2, hk, AlikeS.trans ha2 h00⟩
          obtain rfl := Pairs.ends (R := fun s t => s < (trimS U2 K).length ∧ t < (trimS U m).length ∧ AlikeS (trimS U2 K) (trimS U m) (s : Nat) (t : Nat)) hR hN hl hw2 hw
          have hA2 : ∀ s t : Nat, (s < (trimS U2 K).length ∧ t < (trimS U m).length ∧ AlikeS (trimS U2 K) (trimS U m) (s : Nat) (t : Nat)) → accAt (trimS U2 K) s = accAt (trimS U m) t := fun s t h => h.2.2.acc
          have hfin := least_same (R := fun s t => s < (trimS U2 K).length ∧ t < (trimS U m).length ∧ AlikeS (trimS U2 K) (trimS U m) (s : Nat) (t : Nat)) hR hN hA2 (Pairs.walk hR hN hl i2)
          exact hK2.trans (hfin.trans hK.symm)
end Go.Proofs.Ytamgldhnfcikbaa
set_option maxRecDepth 100000
namespace Go.Proofs.Ytamgldhnfcikbaa
open Go.RowKit

theorem bytesOf_len_late (s : ByteArray) : (bytesOf s).length = s.size := by
  rw [bytesOf, List.length_map, Array.length_toList]; rfl
theorem bytesOf_get_late (s : ByteArray) (k : Nat) (h : k < s.size) (h' : k < (bytesOf s).length) : (bytesOf s)[k] = s[k].toNat := by
  simp only [bytesOf, List.getElem_map, Array.getElem_toList]; rfl
theorem run_take_late {m : List Sta} {s : Int} {bs : List Nat} {i : Nat} (h : i < bs.length) : runFrom m s (bs.take (i + 1)) = nextS m (runFrom m s (bs.take i)) bs[i] := by
  unfold runFrom
  rw [List.take_succ_eq_append_getElem h, List.foldl_append]; rfl
set_option maxHeartbeats 2000000 in
theorem rrun_late (v : Value) (m : List Sta) (s : ByteArray) (w : World) (hv : MachAt w v m) (hl : ∀ s ∈ m, s.arcs.length < 9223372036854775808) (hm : Mays m) (hs : s.size < 9223372036854775808) :
    Calls Try.prog 41 #[v, .string s] w fun e w' => e = .returned (.int .i64 (runS m (bytesOf s))) ∧ w' = w := by
  have HNX := Lib.hid (fun st (c : Nat) => rnext_any v m st c w hv hl hm)
  obtain ⟨av, cv, rfl⟩ := hv.len
  obtain ⟨s0, hs0⟩ : ∃ s0 : Int, (if m.length = 0 then -1 else 0) = s0 := ⟨_, rfl⟩
  have HS0 := Lib.hid hs0
  have HRS := Lib.hid (show ∀ i (h : i < s.size), runFrom m s0 ((bytesOf s).take (i + 1)) = nextS m (runFrom m s0 ((bytesOf s).take i)) s[i].toNat from fun i h => by
    rw [run_take_late (by rw [bytesOf_len_late]; exact h), bytesOf_get_late s i h])
  have HFN := Lib.hid (show runS m (bytesOf s) = runFrom m s0 ((bytesOf s).take s.size) from by
    unfold runS; rw [hs0, List.take_of_length_le (by rw [bytesOf_len_late]; omega)])
  clear hv hl hm hs0
  go_enter Try.func41, Try.ntmps41
  by_cases h0 : m.length = 0
  · have d0 : ((m.length : Int) == 0) = true := by simp [h0]
    have d1 : (m.length == 0) = true := by simp [h0]
    obtain rfl : s0 = -1 := by have := HS0.out; rw [if_pos h0] at this; exact this.symm
    clear h0
    go_wp2
    clear d0 d1
    go_loopw [5, 6] (fun x z wr => ∃ k : Nat, z = .int .i64 k ∧ k ≤ s.size ∧ x = .int .i64 (runFrom m (-1) ((bytesOf s).take k)) ∧ wr = w) (fun _ z _ => s.size - (intOf z).toNat)
    case atStart => exact ⟨0, rfl, Nat.zero_le _, rfl, rfl⟩
    case round =>
      obtain ⟨k, rfl, hk, rfl, rfl⟩ := hrel
      by_cases hlt : k < s.size
      · have hdd : decide ((k : Int) < s.size) = true := decide_eq_true (by omega)
        have HN1 := Lib.hid (HNX.out (runFrom m (-1) ((bytesOf s).take k)) s[k].toNat)
        have HR1 := Lib.hid (HRS.out k hlt)
        generalize runFrom m (-1) ((bytesOf s).take k) = st at *
        go_wp2_with (go_at_call 27; refine HN1.out.mono ?_; rintro e w5 ⟨rfl, e5⟩; subst e5)
        exact ⟨⟨k + 1, rfl, hlt, by rw [HR1.out], trivial⟩, by simp only [intOf]; omega⟩
      · have hdd : decide ((k : Int) < s.size) = false := decide_eq_false (by omega)
        have hdn : decide (k < s.size) = false := decide_eq_false hlt
        obtain rfl : k = s.size := by omega
        generalize runFrom m (-1) ((bytesOf s).take s.size) = st at *
        go_wp2
        go_ret
        exact ⟨by rw [HFN.out]; rfl, rfl⟩
  · have d0 : ((m.length : Int) == 0) = false := by rw [beq_eq_false_iff_ne]; omega
    have d1 : (m.length == 0) = false := by rw [beq_eq_false_iff_ne]; omega
    obtain rfl : s0 = 0 := by have := HS0.out; rw [if_neg h0] at this; exact this.symm
    clear h0
    go_wp2
    clear d0 d1
    go_loopw [5, 6] (fun x z wr => ∃ k : Nat, z = .int .i64 k ∧ k ≤ s.size ∧ x = .int .i64 (runFrom m 0 ((bytesOf s).take k)) ∧ wr = w) (fun _ z _ => s.size - (intOf z).toNat)
    case atStart => exact ⟨0, rfl, Nat.zero_le _, rfl, rfl⟩
    case round =>
      obtain ⟨k, rfl, hk, rfl, rfl⟩ := hrel
      by_cases hlt : k < s.size
      · have hdd : decide ((k : Int) < s.size) = true := decide_eq_true (by omega)
        have HN1 := Lib.hid (HNX.out (runFrom m 0 ((bytesOf s).take k)) s[k].toNat)
        have HR1 := Lib.hid (HRS.out k hlt)
        generalize runFrom m 0 ((bytesOf s).take k) = st at *
        go_wp2_with (go_at_call 27; refine HN1.out.mono ?_; rintro e w5 ⟨rfl, e5⟩; subst e5)
        exact ⟨⟨k + 1, rfl, hlt, by rw [HR1.out], trivial⟩, by simp only [intOf]; omega⟩
      · have hdd : decide ((k : Int) < s.size) = false := decide_eq_false (by omega)
        have hdn : decide (k < s.size) = false := decide_eq_false hlt
        obtain rfl : k = s.size := by omega
        generalize runFrom m 0 ((bytesOf s).take s.size) = st at *
        go_wp2
        go_ret
        exact ⟨by rw [HFN.out]; rfl, rfl⟩
set_option maxHeartbeats 2000000 in
theorem rwhole_late (v : Value) (m : List Sta) (s : ByteArray) (w : World) (hv : MachAt w v m) (hl : ∀ s ∈ m, s.arcs.length < 9223372036854775808) (hm : Mays m) (hs : s.size < 9223372036854775808) :
    Calls Try.prog 20 #[v, .string s] w fun e w' => e = .returned (.bool (wholeS m (bytesOf s))) ∧ w' = w := by
  have HRU := Lib.hid (rrun_late v m s w hv hl hm hs)
  obtain ⟨av, cv, rfl⟩ := hv.len
  have HW := Lib.hid (show wholeS m (bytesOf s) = decide (accS m (runS m (bytesOf s)) ≠ 0) from rfl)
  generalize runS m (bytesOf s) = st at *
  by_cases h0 : 0 ≤ st
  · have d1 : decide (st ≥ 0) = true := decide_eq_true h0
    have d2 : decide (0 ≤ st) = true := decide_eq_true h0
    by_cases h1 : st < m.length
    · have d3 : decide (st < (m.length : Int)) = true := decide_eq_true h1
      obtain ⟨k, rfl⟩ : ∃ k : Nat, st = k := ⟨st.toNat, by omega⟩
      have hk : k < m.length := by omega
      obtain ⟨b, o, va, rfl, e0, e1, ha⟩ := hv.at rfl hk
      have HW2 := Lib.hid (show wholeS m (bytesOf s) = decide (m[k].acc ≠ 0) from by
        rw [HW.out, accS_at hk])
      clear hv hl hm HW h0
      generalize m[k].acc = ac at *
      by_cases hz : ac = 0
      · subst hz
        go_enter Try.func20, Try.ntmps20
        go_wp2_with (go_at_call 41; refine HRU.out.mono ?_; rintro e w5 ⟨rfl, e5⟩; subst e5)
        go_ret
        exact ⟨by rw [HW2.out]; rfl, rfl⟩
      · have d5 : ((ac : Int) != 0) = true := by rw [bne_iff_ne]; omega
        have d6 : (ac != 0) = true := by rw [bne_iff_ne]; omega
        have d7 : (ac == 0) = false := by rw [beq_eq_false_iff_ne]; omega
        have HW3 := Lib.hid (show wholeS m (bytesOf s) = true from by rw [HW2.out]; exact decide_eq_true hz)
        clear HW2 hz
        go_enter Try.func20, Try.ntmps20
        go_wp2_with (go_at_call 41; refine HRU.out.mono ?_; rintro e w5 ⟨rfl, e5⟩; subst e5)
        go_ret
        exact ⟨by rw [HW3.out]; rfl, rfl⟩
    · have d3 : decide (st < (m.length : Int)) = false := decide_eq_false h1
      have HW3 := Lib.hid (show wholeS m (bytesOf s) = false from by rw [HW.out, accS_none (by omega)]; rfl)
      clear hv hl hm HW h1
      go_enter Try.func20, Try.ntmps20
      go_wp2_with (go_at_call 41; refine HRU.out.mono ?_; rintro e w5 ⟨rfl, e5⟩; subst e5)
      go_ret
      exact ⟨by rw [HW3.out]; rfl, rfl⟩
  · have d1 : decide (st ≥ 0) = false := decide_eq_false h0
    have d2 : decide (0 ≤ st) = false := decide_eq_false h0
    have HW3 := Lib.hid (show wholeS m (bytesOf s) = false from by rw [HW.out, accS_none (by omega)]; rfl)
    clear hv hl hm HW h0
    go_enter Try.func20, Try.ntmps20
    go_wp2_with (go_at_call 41; refine HRU.out.mono ?_; rintro e w5 ⟨rfl, e5⟩; subst e5)
    go_ret
    exact ⟨by rw [HW3.out]; rfl, rfl⟩
end Go.Proofs.Ytamgldhnfcikbaa
set_option maxRecDepth 100000
namespace Go.Proofs.Ytamgldhnfcikbaa
open Go.RowKit

theorem useL_all {K : List Sta} (h : ∀ s, s < K.length → Leads K s ∧ Come K s) : ∀ i (hi : i < (useL K).length), (useL K)[i] = true := fun i hi => by
  have key : ∀ x ∈ useL K, x = true := by
    intro x hx
    unfold useL at hx
    obtain ⟨s, hs, rfl⟩ := List.mem_map.1 hx
    exact (@decide_eq_true_iff _ (Classical.propDecidable _)).2 (h s (List.mem_range.1 hs))
  exact key _ (List.getElem_mem hi)
theorem bytesOf_lt (s : ByteArray) : ∀ b ∈ bytesOf s, b < 256 := fun b hb => by
  unfold bytesOf at hb
  obtain ⟨x, _, rfl⟩ := List.mem_map.1 hb
  exact x.toNat_lt
theorem whole_alike {K m : List Sta} (h : AlikeS K m 0 0) (s : ByteArray) : wholeS K (bytesOf s) = wholeS m (bytesOf s) := by
  unfold wholeS
  rw [run_zero, run_zero, alike_iff.1 h _ (bytesOf_lt s)]
set_option linter.unusedSimpArgs false in
set_option maxHeartbeats 8000000 in
theorem once_law (v : Value) (m : List Sta) (s : ByteArray) (w : World) (hv : MachAt w v m) (hml : m.length < 9223372036854775808) (hl : ∀ s ∈ m, s.arcs.length < 9223372036854775808) (hm : Mays m) :
    Calls Try.prog 5 #[v, .string s] w fun e w' => e = .returned (.bool true) ∧ Below w.heap.size w w' := by
  obtain ⟨B, hB⟩ : ∃ B, w.heap.size = B := ⟨_, rfl⟩
  have HB := Lib.hid hB
  have HV := Lib.hid hv
  have HAW := Lib.hid (awake_any w)
  have HPL := Lib.hid (fun W (h : Below w.heap.size w W) => pleast_any v m W (hv.below h) hl hm)
  have HCK := Lib.hid (fun W (h : Below w.heap.size w W) => rcheck07_any v m W (hv.below h) hl hm)
  have HMM := Lib.hid hm
  have HLL := Lib.hid hl
  obtain ⟨va, vc, rfl⟩ := hv.len
  obtain ⟨n, hn⟩ : ∃ n, m.length = n := ⟨_, rfl⟩
  have HN := Lib.hid hn
  rw [hB] at HAW HPL HCK ⊢
  rw [hn] at HPL HCK hml HV ⊢
  clear hv hl hm hn hB
  go_enter Try.func5, Try.ntmps5
  go_upto_region 4 with (go_at_call 6; (with_reducible refine HAW.out.mono ?_); rintro e w1 ⟨he, hb1⟩; rw [he]; clear he; have HB1 := Lib.hid hb1; clear hb1)
  by_cases hbig : 10 < n
  · have hd : decide ((10 : Int) < n) = true := decide_eq_true (by omega)
    have hi : (10 : Int) < n := by omega
    clear HPL HCK
    go_wp2
    exact bodyPost_ret (v := .bool true) (by simp [results, Try.results5, go_sem, *]) rfl ⟨rfl, HB1.out⟩
  · have hd : decide ((10 : Int) < n) = false := decide_eq_false (by omega)
    have hi : ¬ (10 : Int) < n := by omega
    by_cases hbs : 60 < s.size
    · have hd2 : decide ((60 : Int) < s.size) = true := decide_eq_true (by omega)
      have hi2 : (60 : Int) < s.size := by omega
      clear HPL HCK
      go_wp2
      exact bodyPost_ret (v := .bool true) (by simp [results, Try.results5, go_sem, *]) rfl ⟨rfl, HB1.out⟩
    · have hd2 : decide ((60 : Int) < s.size) = false := decide_eq_false (by omega)
      have hi2 : ¬ (60 : Int) < s.size := by omega
      have HP1 := Lib.hid (HPL.out w1 HB1.out)
      have HSS : Hid (s.size < 9223372036854775808) := Lib.hid (by omega)
      clear HPL
      go_upto_region 7 with (go_at_call 8; (with_reducible refine HP1.out.mono ?_); rintro e w2 ⟨u, K, he, HK, HLP, HB2a⟩; rw [he]; clear he; have HB2 : Hid (Below B w w2) := Lib.hid (HB1.out.trans (HB2a.out.mono (by rw [← HB.out]; exact HB1.out.size))))
      obtain ⟨ka, kc, rfl⟩ := HK.out.len
      have HO := Lib.hid (once_math HMM.out HLP.out)
      have HSZ := Lib.hid (least_size HMM.out HLP.out)
      have HKL : Hid (∀ s ∈ K, s.arcs.length < 9223372036854775808) := Lib.hid (fun s hs => by have := HSZ.out.2 s hs; omega)
      have HUS : Hid (Calls Try.prog 11 #[.slice ka K.length kc] w2 fun e w' => ∃ u, e = .returned u ∧ Hid (RdV w' u ((useL K).map Value.bool)) ∧ Hid (Below w2.heap.size w2 w')) := Lib.hid (by
        have h := puse_rdv _ K w2 HK.out HKL.out HO.out.2.1
        rw [HO.out.1] at h; exact h)
      have HTT := Lib.hid (useL_all HO.out.2.2.1)
      have HTL := Lib.hid (useL_len K)
      obtain ⟨T, hT⟩ : ∃ T, useL K = T := ⟨_, rfl⟩
      rw [hT] at HUS HTT HTL
      obtain ⟨kn, hkn⟩ : ∃ kn, K.length = kn := ⟨_, rfl⟩
      have HKN := Lib.hid hkn
      rw [hkn] at HUS HTL
      try rw [hkn]
      clear hT hkn
      go_upto_region 8 with (go_at_call 11; (with_reducible refine HUS.out.mono ?_); rintro e w3 ⟨u3, he, HR3, HB3a⟩; rw [he]; clear he; have HB3 : Hid (Below B w w3) := Lib.hid (HB2.out.trans (HB3a.out.mono (by rw [← HB.out]; exact HB2.out.size))))
      obtain ⟨ua, uc, hu3⟩ := HR3.out.len
      rw [List.length_map, HTL.out] at hu3
      subst hu3
      have HK3 := Lib.hid (HK.out.below HB3a.out)
      clear HUS HP1 HB2 HB1 HAW hd hi hd2 hi2
      have hkle : kn ≤ n := by rw [← HKN.out, ← HN.out]; exact HSZ.out.1
      go_wp2_with fail
      go_loopw [8] (fun z wr => ∃ i : Nat, z = .int .i64 i ∧ i ≤ kn ∧ wr = w3) (fun z _ => kn - (intOf z).toNat)
      case atStart => exact ⟨0, rfl, Nat.zero_le _, rfl⟩
      case round =>
        obtain ⟨i, rfl, hik, rfl⟩ := hrel
        by_cases hlt : i < kn
        · have hdi : decide ((i : Int) < kn) = true := decide_eq_true (by omega)
          have hii : (i : Int) < kn := by omega
          have hiT : i < T.length := by rw [HTL.out]; exact hlt
          obtain ⟨t1, t2, t3, hte, htc⟩ := HR3.out.at (i := i) (by rw [List.length_map]; exact hiT)
          rw [List.getElem_map, HTT.out i hiT] at htc
          rw [List.length_map, HTL.out] at hte
          cases hte
          clear hiT
          go_wp2
          go_roundw
          case rel => exact ⟨i + 1, num_succ i, by omega, by first | rfl | trivial⟩
          case measure => simp only [intOf]; omega
        · obtain rfl : i = kn := by omega
          have hdi : decide ((i : Int) < i) = false := by simp
          have HC3 := Lib.hid (HCK.out wr HB3.out)
          cases hck : checkB m
          · rw [hck] at HC3
            have hz : soundS m = [] := by unfold soundS; rw [hck]; rfl
            have hK0 : K = [] := by
              rcases HLP.out with ⟨_, e⟩ | ⟨e, h0, _⟩
              · exact e
              · rw [hz] at e; rw [← e] at h0; simp at h0
            have hi0 : i = 0 := by rw [← HKN.out, hK0]; rfl
            subst hi0
            have hev : errV false = 110 := rfl
            rw [hev] at HC3
            clear hz hK0 hev hck
            go_wp2_with (go_at_call 19; (with_reducible refine HC3.out.mono ?_); rintro e w4 ⟨he, hb4⟩; rw [he]; clear he; have HB4 : Hid (Below B w w4) := Lib.hid (HB3.out.trans (hb4.mono (by rw [← HB.out]; exact HB3.out.size))); clear hb4)
            exact bodyPost_ret (v := .bool true) (by simp [results, Try.results5, go_sem, *]) rfl ⟨rfl, HB4.out⟩
          · rw [hck] at HC3
            have hsm : soundS m = m := by unfold soundS; rw [hck]; rfl
            have hev : errV true = 0 := rfl
            rw [hev] at HC3
            have HAS := Lib.hid (least_alike HMM.out HLP.out)
            rw [hsm] at HAS
            have HSM := Lib.hid hsm
            have hle : i ≤ n := by rw [← HKN.out, ← HN.out]; exact HSZ.out.1
            have hdl : decide ((i : Int) ≤ n) = true := decide_eq_true (by omega)
            have hil : (i : Int) ≤ n := by omega
            have HLE : Hid (∀ W, Below wr.heap.size wr W → Calls Try.prog 8 #[.slice ka i kc] W fun e w' => ∃ u, e = .returned u ∧ Hid (MachAt w' u K) ∧ Hid (Below W.heap.size W w')) := Lib.hid (fun W h => by
              have hq := HK3.out.below h
              rw [HKN.out] at hq
              exact (pleast_any _ K W hq HKL.out HO.out.2.1).mono fun e w' ⟨u, K2, he, hk, hlp, hb⟩ => ⟨u, he, by rw [← HO.out.2.2.2 K2 hlp.out]; exact hk, hb⟩)
            have HSA : Hid (∀ W u, Below wr.heap.size wr W → MachAt W u K → Calls Try.prog 7 #[u, .slice ka i kc] W fun e w' => e = .returned (.bool true) ∧ Hid (Below W.heap.size W w')) := Lib.hid (fun W u h hu => by
              have hq := HK3.out.below h
              rw [HKN.out] at hq
              exact (rsame07_any u _ K K W hu hq (by rw [HKN.out]; omega) HKL.out HKL.out).mono fun e w' ⟨he, hb⟩ => ⟨by rw [he, sameB_true.2 rfl], Lib.hid hb⟩)
            have HAL : Hid (∀ W, Below wr.heap.size wr W → Calls Try.prog 17 #[.slice ka i kc, .slice va n vc] W fun e w' => e = .returned (.bool true) ∧ Hid (Below W.heap.size W w')) := Lib.hid (fun W h => by
              have hq := HK3.out.below h
              rw [HKN.out] at hq
              have hb3 : Below w.heap.size w W := by rw [HB.out]; exact HB3.out.trans (h.mono (by rw [← HB.out]; exact HB3.out.size))
              exact (palike_any _ _ K m W hq (HV.out.below hb3) HKL.out HLL.out HO.out.2.1 HMM.out).mono fun e w' ⟨⟨b, he, hd⟩, hb⟩ => by
                rw [HO.out.1, HSM.out] at hd
                exact ⟨by rw [he, alikeP_one hd (alike_dif HAS.out)], hb⟩)
            have HW1 : Hid (∀ W, Below wr.heap.size wr W → Calls Try.prog 20 #[.slice ka i kc, .string s] W fun e w' => e = .returned (.bool (wholeS K (bytesOf s))) ∧ w' = W) := Lib.hid (fun W h => by
              have hq := HK3.out.below h
              rw [HKN.out] at hq
              exact rwhole_late _ K s W hq HKL.out HO.out.2.1 HSS.out)
            have HW2 : Hid (∀ W, Below wr.heap.size wr W → Calls Try.prog 20 #[.slice va n vc, .string s] W fun e w' => e = .returned (.bool (wholeS K (bytesOf s))) ∧ w' = W) := Lib.hid (fun W h => by
              have hb3 : Below w.heap.size w W := by rw [HB.out]; exact HB3.out.trans (h.mono (by rw [← HB.out]; exact HB3.out.size))
              rw [whole_alike HAS.out s]
              exact rwhole_late _ m s W (HV.out.below hb3) HLL.out HMM.out HSS.out)
            obtain ⟨wh, hwh⟩ : ∃ wh, wholeS K (bytesOf s) = wh := ⟨_, rfl⟩
            rw [hwh] at HW1 HW2
            clear hsm hev hck hwh
            go_upto_region 15 with (go_at_call 19; (with_reducible refine HC3.out.mono ?_); rintro e w4 ⟨he, hb4⟩; rw [he]; clear he; have HB4 := Lib.hid hb4; clear hb4)
            have HL4 := Lib.hid (HLE.out w4 HB4.out)
            clear HLE HC3 HCK
            go_wp2_with (first
              | (go_at_call 8; (with_reducible refine HL4.out.mono ?_); rintro e w5 ⟨u5, he, HU5, HB5a⟩; rw [he]; clear he; have HB5 : Hid (Below wr.heap.size wr w5) := Lib.hid (HB4.out.trans (HB5a.out.mono HB4.out.size)); have HS5 := Lib.hid (HSA.out w5 u5 HB5.out HU5.out))
              | (go_at_call 7; (with_reducible refine HS5.out.mono ?_); rintro e w6 ⟨he, HB6a⟩; rw [he]; clear he; have HB6 : Hid (Below wr.heap.size wr w6) := Lib.hid (HB5.out.trans (HB6a.out.mono HB5.out.size)); have HA6 := Lib.hid (HAL.out w6 HB6.out))
              | (go_at_call 17; (with_reducible refine HA6.out.mono ?_); rintro e w7 ⟨he, HB7a⟩; rw [he]; clear he; have HB7 : Hid (Below wr.heap.size wr w7) := Lib.hid (HB6.out.trans (HB7a.out.mono HB6.out.size)); have HX7 := Lib.hid (HW1.out w7 HB7.out); have HY7 := Lib.hid (HW2.out w7 HB7.out))
              | (go_at_call 20; (with_reducible refine HX7.out.mono ?_); rintro e w8 ⟨he, rfl⟩; rw [he]; clear he HX7)
              | (go_at_call 20; (with_reducible refine HY7.out.mono ?_); rintro e w8 ⟨he, rfl⟩; rw [he]; clear he))
            exact bodyPost_ret (v := .bool true) (by simp [results, Try.results5, go_sem, *]) rfl ⟨rfl, HB3.out.trans (HB7.out.mono (by rw [← HB.out]; exact HB3.out.size))⟩
end Go.Proofs.Ytamgldhnfcikbaa
