/- Texts that a proof rests on: What comes in: machines. | The walk of MinimLeast. -/
import Derived.Test.YtamgldhnfcikbaaK25
import Derived.ProofKit
import Derived.OpenShut
import Derived.Stop.Joined
import Derived.Lib.SmallJoins
import Derived.Deep.Slices
set_option maxRecDepth 100000
namespace Go.Proofs.Ytamgldhnfcikbaa
open Go.ChangeShapes Go.WideShapes Go.ChangeAt Go.RowKit Go.Deep

theorem own : ownKnob Try.prog.godebug = none := by kernel_rfl
theorem laidOut : laidOutB Try.prog = true := by kernel_rfl
theorem cellsArc : Try.prog.cellsOf 38 = 3 := by kernel_rfl
theorem cellsSta : Try.prog.cellsOf 42 = 2 := by kernel_rfl
theorem cellsU8 : Try.prog.cellsOf 5 = 1 := by kernel_rfl
theorem cellsU64 : Try.prog.cellsOf 40 = 1 := by kernel_rfl
theorem cellsInt : Try.prog.cellsOf 3 = 1 := by kernel_rfl
theorem cellsArcs : Try.prog.cellsOf 39 = 1 := by kernel_rfl
theorem add_none (b off n : Nat) : (⟨b, off, none⟩ : Addr).add n = ⟨b, off + n, none⟩ := by
  unfold Addr.add
  split
  · rename_i h; subst h; rfl
  · rfl
theorem spot_none {W : World} {a : Addr} {v : Value} (h : W.cell? ((a.add 0).add 0) = some v) : ∃ b o, a = ⟨b, o, none⟩ := by
  obtain ⟨b, off, sp⟩ := a
  simp only [Addr.add, if_true] at h
  unfold World.cell? at h
  split at h
  · split at h
    · cases h
    · rename_i hn
      obtain rfl : sp = none := by simpa using hn
      exact ⟨_, _, rfl⟩
  · cases h
theorem nat_u8 {n : Int} (h : (Lit.int .u8 n).wf = true) : ∃ m : Nat, n = m ∧ m < 256 := by
  have h2 := bounds_u8 h
  exact ⟨n.toNat, by omega, by omega⟩
theorem nat_u64 {n : Int} (h : (Lit.int .u64 n).wf = true) : ∃ m : Nat, n = m ∧ m < 18446744073709551616 := by
  have h2 := bounds_u64 h
  exact ⟨n.toNat, by omega, by omega⟩
instance : Inhabited Arc3 := ⟨⟨0, 0, 0⟩⟩
instance : Inhabited Sta := ⟨⟨0, []⟩⟩
section
variable {H : Type} {enc : TypeId × Value → H} {W : World} {base : Nat} {sp : Nat → Bool} {hd : Bool}
theorem arc_of_cells {n : Nat} {cs : List Value} {x : DataW H × List MemPlace} (hl : cs.length = 3) (h : DataW.trod enc Try.prog W base sp hd n 38 cs = some x) :
    ∃ a : Arc3, a.may ∧ cs = [.int .u8 a.lo, .int .u8 a.hi, .int .i64 a.dest] := by
  obtain ⟨xs, m, rfl, hx, _, hl2, hel⟩ := DataW.trod_struct Try.underlying38 h
  match cs, hl, xs, hl2 with
  | [c0, c1, c2], _, [x0, x1, x2], _ =>
    have k0 := hel 0 _ rfl
    have k1 := hel 1 _ rfl
    have k2 := hel 2 _ rfl
    simp [cellsU8] at k0 k1
    simp [cellsInt] at k2
    obtain ⟨n0, e0, _, w0⟩ := DataW.trod_int Try.underlying5 k0
    obtain ⟨n1, e1, _, w1⟩ := DataW.trod_int Try.underlying5 k1
    obtain ⟨n2, e2, _, w2⟩ := DataW.trod_int Try.underlying3 k2
    simp at e0 e1 e2
    subst e0 e1 e2
    obtain ⟨m0, rfl, l0⟩ := nat_u8 w0
    obtain ⟨m1, rfl, l1⟩ := nat_u8 w1
    have b2 := bounds_i64 w2
    exact ⟨⟨m0, m1, n2⟩, ⟨l0, l1, by show -9223372036854775808 ≤ n2; omega, by show n2 < 9223372036854775808; omega⟩, rfl⟩
theorem open_arcs {n : Nat} {v : Value} {x : DataW H × List MemPlace} (h : DataW.trod enc Try.prog W base sp hd n 39 [v] = some x) : ∃ l, ArcsAt W v l ∧ l.length < 9223372036854775808 ∧ ∀ a ∈ l, a.may := by
  rcases open_slice Try.underlying39 h with ⟨hcs, _⟩ | ⟨a, len, cap, m, n, D, Pl, hcs, hb, hlc, hcm, hm, hx, hel⟩
  · simp at hcs
    subst hcs
    exact ⟨[], ArcsAt.nil W, by simp, fun a h => by cases h⟩
  · simp at hcs
    subst hcs
    rw [cellsArc] at hel
    have hlm : len ≤ m := by rw [hm]; split <;> omega
    have each : ∀ i, i < len → ∃ y : Arc3, y.may ∧ ∀ j, j < 3 → W.cell? ((a.add (i * 3)).add j) = [Value.int .u8 y.lo, .int .u8 y.hi, .int .i64 y.dest][j]? := fun i hi => by
      obtain ⟨cs, h1, h2⟩ := hel i (by omega)
      obtain ⟨_, h3, h4⟩ := World.cells?_some h1
      obtain ⟨y, hy, rfl⟩ := arc_of_cells h3 h2
      exact ⟨y, hy, h4⟩
    obtain ⟨f, hf⟩ := choose_lt each
    refine ⟨(List.range len).map f, ⟨some a, cap, by simp, fun i hi => ?_⟩, by simp [maxLen] at hcm ⊢; omega, fun y hy => ?_⟩
    · have hi' : i < len := by simpa using hi
      obtain ⟨b, o, rfl⟩ := spot_none (by have := (hf 0 (by omega)).2 0 (by omega); rw [Nat.zero_mul] at this; exact this)
      have k0 := (hf i hi').2 0 (by omega)
      have k1 := (hf i hi').2 1 (by omega)
      have k2 := (hf i hi').2 2 (by omega)
      rw [add_none, add_none] at k0 k1 k2
      refine ⟨b, o, rfl, ?_, ?_, ?_⟩
      · simpa using k0
      · simpa using k1
      · simpa using k2
    · obtain ⟨i, hi, rfl⟩ := List.mem_map.1 hy
      exact (hf i (by simpa using hi)).1
theorem sta_of_cells {n : Nat} {cs : List Value} {x : DataW H × List MemPlace} (hl : cs.length = 2) (h : DataW.trod enc Try.prog W base sp hd n 42 cs = some x) :
    ∃ (s : Sta) (v : Value), s.may ∧ s.arcs.length < 9223372036854775808 ∧ cs = [.int .u64 s.acc, v] ∧ ArcsAt W v s.arcs := by
  obtain ⟨xs, m, rfl, hx, _, hl2, hel⟩ := DataW.trod_struct Try.underlying42 h
  match cs, hl, xs, hl2 with
  | [c0, c1], _, [x0, x1], _ =>
    have k0 := hel 0 _ rfl
    have k1 := hel 1 _ rfl
    simp [cellsU64] at k0
    simp [cellsArcs] at k1
    obtain ⟨n0, e0, _, w0⟩ := DataW.trod_int Try.underlying40 k0
    simp at e0
    subst e0
    obtain ⟨m0, rfl, l0⟩ := nat_u64 w0
    obtain ⟨l, hA, hlen, hmay⟩ := open_arcs k1
    exact ⟨⟨m0, l⟩, c1, ⟨l0, hmay⟩, hlen, rfl, hA⟩
end
theorem open_mach {H : Type} {enc : TypeId × Value → H} {W : World} {r : Reach} {base : Nat} {v : Value} {d : DataW H} {p : List MemPlace} (hv : Value.okWide Try.prog W r base 23 v)
    (h : DataW.Trod enc Try.prog W 0 (fun _ => true) true 23 v d p) : ∃ m, MachAt W v m ∧ m.length < 9223372036854775808 ∧ (∀ s ∈ m, s.arcs.length < 9223372036854775808) ∧ Mays m := by
  obtain ⟨a0, len, cap, rfl⟩ := okWide_slice Try.underlying23 hv
  obtain ⟨fuel, hf⟩ := h
  rcases open_slice Try.underlying23 hf with ⟨hcs, _⟩ | ⟨a, len', cap', m, n, D, Pl, hcs, hb, hlc, hcm, hm, hx, hel⟩
  · simp [Value.cells] at hcs
    obtain ⟨rfl, rfl, rfl⟩ := hcs
    exact ⟨[], MachAt.nil W, by simp, fun s h => (by cases h), fun s h => (by cases h)⟩
  · simp [Value.cells] at hcs
    obtain ⟨rfl, rfl, rfl⟩ := hcs
    simp only [if_true] at hm
    subst hm
    rw [cellsSta] at hel
    have each : ∀ i, i < len → ∃ y : Sta × Value, y.1.may ∧ y.1.arcs.length < 9223372036854775808 ∧ (∀ j, j < 2 → W.cell? ((a.add (i * 2)).add j) = [Value.int .u64 y.1.acc, y.2][j]?) ∧ ArcsAt W y.2 y.1.arcs := fun i hi => by
      obtain ⟨cs, h1, h2⟩ := hel i (by omega)
      obtain ⟨_, h3, h4⟩ := World.cells?_some h1
      obtain ⟨s, u, hs, hl, rfl, hA⟩ := sta_of_cells h3 h2
      exact ⟨(s, u), hs, hl, h4, hA⟩
    obtain ⟨f, hf⟩ := choose_lt each
    refine ⟨(List.range len).map fun i => (f i).1, ⟨some a, _, by simp; rfl, fun i hi => ?_⟩, by simp [maxLen] at hcm ⊢; omega, fun y hy => ?_, fun y hy => ?_⟩
    · have hi' : i < len := by simpa using hi
      obtain ⟨b, o, rfl⟩ := spot_none (by have := (hf 0 (by omega)).2.2.1 0 (by omega); rw [Nat.zero_mul] at this; exact this)
      have k0 := (hf i hi').2.2.1 0 (by omega)
      have k1 := (hf i hi').2.2.1 1 (by omega)
      rw [add_none, add_none] at k0 k1
      refine ⟨b, o, (f i).2, rfl, ?_, ?_, ?_⟩
      · simpa using k0
      · simpa using k1
      · simpa using (hf i hi').2.2.2
    · obtain ⟨i, hi, rfl⟩ := List.mem_map.1 hy
      exact (hf i (by simpa using hi)).2.1
    · obtain ⟨i, hi, rfl⟩ := List.mem_map.1 hy
      exact (hf i (by simpa using hi)).1
end Go.Proofs.Ytamgldhnfcikbaa
set_option maxRecDepth 100000
namespace Go.Proofs.Ytamgldhnfcikbaa
open Go.RowKit

theorem arcsS_len (f : Nat → Int) : (arcsS f).length ≤ 256 := by
  unfold arcsS
  exact arcsUp_len f 256
theorem least_size {m K : List Sta} (hm : Mays m) (h : LeastP m K) : K.length ≤ m.length ∧ ∀ s ∈ K, s.arcs.length ≤ 256 := by
  rcases h with ⟨_, rfl⟩ | ⟨hs, h0, U, hU, h⟩
  · exact ⟨Nat.zero_le _, fun s hs => by cases hs⟩
  · have hf := (sound_len hm (by rw [hs]; exact h0)).2.1
    rcases h with ⟨_, _, rfl⟩ | ⟨_, hk, C, i, hC, hCn, hw, rfl⟩
    · exact ⟨Nat.zero_le _, fun s hs => by cases hs⟩
    · have hft := trim_fits U hf
      have hlt := walkK_lt (key := C) (next := nextP (trimS U m)) (s0 := 0) (n := (trimS U m).length) hk (fun s b y hs _ h => nextP_lt hft hs h) i
      have hn := keys_len (walkK_nodup (nextP (trimS U m)) C 0 i) hlt hCn
      refine ⟨?_, fun s hs => ?_⟩
      · unfold leastK
        rw [List.length_map]
        exact Nat.le_trans hn (trim_len_le U m)
      · unfold leastK at hs
        obtain ⟨x, _, rfl⟩ := List.mem_map.1 hs
        exact arcsS_len (gK (nextP (trimS U m)) C (walkK (nextP (trimS U m)) C 0 i) x)
noncomputable def useL (m : List Sta) : List Bool := (List.range m.length).map fun s => @decide (Leads m s ∧ Come m s) (Classical.propDecidable _)
theorem use_eq {m : List Sta} {S : Nat → Bool} (h : ∀ s, s < m.length → (S s = true ↔ Leads m s ∧ Come m s)) : (List.range m.length).map S = useL m := by
  unfold useL
  refine List.map_congr_left fun s hs => ?_
  rw [Bool.eq_iff_iff, h s (List.mem_range.1 hs)]
  exact (@decide_eq_true_iff _ (Classical.propDecidable _)).symm
theorem puse_rdv (v : Value) (m : List Sta) (w : World) (hv : MachAt w v m) (hl : ∀ s ∈ m, s.arcs.length < 9223372036854775808) (hm : Mays m) :
    Calls Try.prog 11 #[v] w fun e w' => ∃ u, e = .returned u ∧ Hid (RdV w' u ((useL (soundS m)).map Value.bool)) ∧ Hid (Below w.heap.size w w') :=
  (puseful_wide v m w hv hl hm).mono fun e w' ⟨hb, hp⟩ => by
    rcases hp with ⟨h0, he⟩ | ⟨_, b, S, he, _, hbk, hS⟩
    · refine ⟨_, he, Lib.hid ?_, hb⟩
      have : soundS m = [] := List.eq_nil_of_length_eq_zero h0
      rw [this]
      exact .inl ⟨rfl, rfl⟩
    · refine ⟨_, he, Lib.hid ?_, hb⟩
      have h := blk_rdv hbk.out
      rw [use_eq hS.out] at h
      exact h
theorem ruse_rdv (v : Value) (m : List Sta) (w : World) (hv : MachAt w v m) (hl : ∀ s ∈ m, s.arcs.length < 9223372036854775808) (hm : Mays m) :
    Calls Try.prog 12 #[v] w fun e w' => ∃ u, e = .returned u ∧ Hid (RdV w' u ((useL (soundS m)).map Value.bool)) ∧ Hid (Below w.heap.size w w') :=
  (ruseful_any v m w hv hl hm).mono fun e w' ⟨b, S, he, _, hbk, hS, hb⟩ => by
    refine ⟨_, he, Lib.hid ?_, hb⟩
    have h := blk_rdv hbk.out
    rw [use_eq hS.out] at h
    exact h
theorem useL_len (m : List Sta) : (useL m).length = m.length := by unfold useL; rw [List.length_map, List.length_range]
set_option linter.unusedSimpArgs false in
set_option maxHeartbeats 8000000 in
theorem least_law (v : Value) (m : List Sta) (w : World) (hv : MachAt w v m) (hml : m.length < 9223372036854775808) (hl : ∀ s ∈ m, s.arcs.length < 9223372036854775808) (hm : Mays m) :
    Calls Try.prog 3 #[v] w fun e w' => e = .returned (.bool true) ∧ Below w.heap.size w w' := by
  obtain ⟨B, hB⟩ : ∃ B, w.heap.size = B := ⟨_, rfl⟩
  have HB := Lib.hid hB
  have HV := Lib.hid hv
  have HAW := Lib.hid (awake_any w)
  have HPL := Lib.hid (fun W (h : Below w.heap.size w W) => pleast_any v m W (hv.below h) hl hm)
  have HRL := Lib.hid (fun W (h : Below w.heap.size w W) => rleast_any v m W (hv.below h) hl hm)
  have HPU := Lib.hid (fun W (h : Below w.heap.size w W) => puse_rdv v m W (hv.below h) hl hm)
  have HRU := Lib.hid (fun W (h : Below w.heap.size w W) => ruse_rdv v m W (hv.below h) hl hm)
  have HMM := Lib.hid hm
  obtain ⟨va, vc, rfl⟩ := hv.len
  obtain ⟨n, hn⟩ : ∃ n, m.length = n := ⟨_, rfl⟩
  have HN := Lib.hid hn
  rw [hB] at HAW HPL HRL HPU HRU ⊢
  rw [hn] at HPL HRL HPU HRU hml ⊢
  clear hv hl hm hn hB
  go_enter Try.func3, Try.ntmps3
  go_upto_region 4 with (go_at_call 6; (with_reducible refine HAW.out.mono ?_); rintro e w1 ⟨he, hb1⟩; rw [he]; clear he; have HB1 := Lib.hid hb1; clear hb1)
  by_cases hbig : 8 < n
  · have hd : decide ((8 : Int) < n) = true := decide_eq_true (by omega)
    have hi : (8 : Int) < n := by omega
    clear HPL HRL HPU HRU
    go_wp2
    exact bodyPost_ret (v := .bool true) (by simp [results, Try.results3, go_sem, *]) rfl ⟨rfl, HB1.out⟩
  · have hd : decide ((8 : Int) < n) = false := decide_eq_false (by omega)
    have hi : ¬ (8 : Int) < n := by omega
    have HP1 := Lib.hid (HPL.out w1 HB1.out)
    clear HPL
    go_wp2_with (first
      | (go_at_call 8; (with_reducible refine HP1.out.mono ?_); rintro e w2 ⟨u, K, he, HK, HLP, HB2a⟩; rw [he]; clear he; have HB2 : Hid (Below B w w2) := Lib.hid (HB1.out.trans (HB2a.out.mono (by rw [← HB.out]; exact HB1.out.size))); have HR2 := Lib.hid (HRL.out w2 HB2.out))
      | (go_at_call 9; (with_reducible refine HR2.out.mono ?_); rintro e w3 ⟨u3, K3, he, HK3, HLR, HB3a⟩; rw [he]; clear he; have HB3 : Hid (Below B w w3) := Lib.hid (HB2.out.trans (HB3a.out.mono (by rw [← HB.out]; exact HB2.out.size))); have HSM : Hid (Calls Try.prog 7 #[u, u3] w3 fun e w' => e = .returned (.bool true) ∧ Hid (Below w3.heap.size w3 w')) := Lib.hid (by
          have hsz := least_size HMM.out HLP.out
          have hK := least_eq HMM.out HLP.out HLR.out
          subst hK
          rw [HN.out] at hsz
          exact (rsame07_any u u3 K K w3 (HK.out.below HB3a.out) HK3.out (by omega) (fun s hs => by have := hsz.2 s hs; omega) (fun s hs => by have := hsz.2 s hs; omega)).mono fun e w' ⟨he, hb⟩ => ⟨by rw [he, sameB_true.2 rfl], Lib.hid hb⟩))
      | (go_at_call 7; (with_reducible refine HSM.out.mono ?_); rintro e w4 ⟨he, HB4a⟩; rw [he]; clear he; have HB4 : Hid (Below B w w4) := Lib.hid (HB3.out.trans (HB4a.out.mono (by rw [← HB.out]; exact HB3.out.size))); have HU4 := Lib.hid (HPU.out w4 HB4.out))
      | (go_at_call 11; (with_reducible refine HU4.out.mono ?_); rintro e w5 ⟨u5, he, HU5, HB5a⟩; rw [he]; clear he; have HB5 : Hid (Below B w w5) := Lib.hid (HB4.out.trans (HB5a.out.mono (by rw [← HB.out]; exact HB4.out.size))); have HR5 := Lib.hid (HRU.out w5 HB5.out))
      | (go_at_call 12; (with_reducible refine HR5.out.mono ?_); rintro e w6 ⟨u6, he, HU6, HB6a⟩; rw [he]; clear he; have HB6 : Hid (Below B w w6) := Lib.hid (HB5.out.trans (HB6a.out.mono (by rw [← HB.out]; exact HB5.out.size))); have HBO : Hid (Calls Try.prog 10 #[u5, u6] w6 fun e w' => e = .returned (.bool true) ∧ Hid (Below w6.heap.size w6 w')) := Lib.hid (by
          exact (rbools_any u5 u6 (useL (soundS m)) (useL (soundS m)) w6 (HU5.out.below HB6a.out) HU6.out (by rw [useL_len]; have := (check_fits (soundS_ok m)).1; omega)).mono fun e w' ⟨he, hb⟩ => ⟨by rw [he, decide_eq_true rfl], Lib.hid hb⟩))
      | (go_at_call 10; (with_reducible refine HBO.out.mono ?_); rintro e w7 ⟨he, HB7a⟩; rw [he]; clear he; have HB7 : Hid (Below B w w7) := Lib.hid (HB6.out.trans (HB7a.out.mono (by rw [← HB.out]; exact HB6.out.size)))))
    exact bodyPost_ret (v := .bool true) (by simp [results, Try.results3, go_sem, *]) rfl ⟨rfl, HB7.out⟩
end Go.Proofs.Ytamgldhnfcikbaa
