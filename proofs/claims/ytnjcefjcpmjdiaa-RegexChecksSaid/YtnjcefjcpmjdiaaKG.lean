/- What the rows share: a set as an argument. -/
import Derived.Test.YtnjcefjcpmjdiaaB1
import Derived.Test.YtnjcefjcpmjdiaaRows
import Derived.ProofKit
import Derived.OpenShut
import Derived.Stop.Joined
import Derived.Lib.SmallJoins
set_option maxRecDepth 100000
namespace Go.Proofs.Ytnjcefjcpmjdiaa
open Go.ChangeShapes Go.WideShapes Go.ChangeAt Go.RowKit
open Go.ChangeMaps (open_string shut_string)

theorem own : ownKnob Try.prog.godebug = none := by kernel_rfl
theorem laidOut : laidOutB Try.prog = true := by kernel_rfl
theorem cellsSet : Try.prog.cellsOf 24 = 4 := by kernel_rfl
theorem okWide_set {W : World} {r : Reach} {base : Nat} {v : Value} (h : Value.okWide Try.prog W r base 24 v) : ∃ cs, v = .agg cs ∧ cs.size = 4 := by
  simp only [Value.okWide, Try.underlying24] at h
  obtain ⟨cs, h1, h2, _⟩ := h
  exact ⟨cs, h1, h2.trans cellsSet⟩
theorem nat_u64 {n : Int} (h : (Lit.int .u64 n).wf = true) : ∃ m : Nat, n = m ∧ m < 18446744073709551616 := by
  have h2 := bounds_u64 h
  exact ⟨n.toNat, by omega, by omega⟩
/-- A set that comes in. -/
theorem open_set {H : Type} {enc : TypeId × Value → H} {W : World} {r : Reach} {base : Nat} {v : Value} {d : DataW H} {p : List MemPlace} (hv : Value.okWide Try.prog W r base 24 v)
    (h : DataW.Trod enc Try.prog W 0 (fun _ => true) true 24 v d p) : ∃ s : BitVec 256, v = (.agg #[.int .u64 (wd (s) 0), .int .u64 (wd (s) 1), .int .u64 (wd (s) 2), .int .u64 (wd (s) 3)]) ∧ p = [] := by
  obtain ⟨cs, rfl, hsz⟩ := okWide_set hv
  obtain ⟨c0, c1, c2, c3, rfl⟩ := Joins.array4 hsz
  obtain ⟨fuel, hf⟩ := h
  obtain ⟨xs, m, rfl, hx, _, hl, hel⟩ := DataW.trod_array Try.underlying24 hf
  rw [cellsU64] at hel
  have k0 := hel 0 (by omega)
  have k1 := hel 1 (by omega)
  have k2 := hel 2 (by omega)
  have k3 := hel 3 (by omega)
  match xs, hl, hx, k0, k1, k2, k3 with
  | [x0, x1, x2, x3], _, hx, k0, k1, k2, k3 =>
    simp [Value.cells] at k0 k1 k2 k3
    obtain ⟨n0, e0, rfl, w0⟩ := DataW.trod_int Try.underlying22 k0
    obtain ⟨n1, e1, rfl, w1⟩ := DataW.trod_int Try.underlying22 k1
    obtain ⟨n2, e2, rfl, w2⟩ := DataW.trod_int Try.underlying22 k2
    obtain ⟨n3, e3, rfl, w3⟩ := DataW.trod_int Try.underlying22 k3
    simp at e0 e1 e2 e3
    subst e0 e1 e2 e3
    obtain ⟨m0, rfl, l0⟩ := nat_u64 w0
    obtain ⟨m1, rfl, l1⟩ := nat_u64 w1
    obtain ⟨m2, rfl, l2⟩ := nat_u64 w2
    obtain ⟨m3, rfl, l3⟩ := nat_u64 w3
    obtain ⟨s, s0, s1, s2, s3⟩ := setV_mk m0 m1 m2 m3 l0 l1 l2 l3
    refine ⟨s, by rw [s0, s1, s2, s3], ?_⟩
    simp only [Prod.mk.injEq] at hx
    rw [hx.2]
    rfl
end Go.Proofs.Ytnjcefjcpmjdiaa
