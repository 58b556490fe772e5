/- What the rows share: the table's condition, sets as arguments. -/
import Derived.Test.YtocllbdfdmpopaaDoorW0
import Derived.Test.YtocllbdfdmpopaaDoorTie
import Derived.Test.YtocllbdfdmpopaaDoorCards
import Derived.ProofKit
import Derived.LaidMore
import Derived.OpenShut
import Derived.Stop.Joined
import Derived.Lib.LaidTab
import Derived.Lib.SmallJoins
set_option maxRecDepth 100000
namespace Go.Proofs.YtocllbdfdmpopaaDoor
open Go.ChangeShapes Go.WideShapes Go.ChangeAt Go.RowKit
open Go.ChangeMaps (open_string shut_string)

theorem own : ownKnob Tryd.prog.godebug = none := by kernel_rfl
theorem laidOut : laidOutB Tryd.prog = true := by kernel_rfl
theorem gTab : Tryd.prog.globalNamed "math/bits.deBruijn64tab" = some 0 := by kernel_rfl
theorem tTab : (Tryd.prog.globals[0]?).map (·.type) = some 56 := by kernel_rfl
theorem cellsTab : Tryd.prog.cellsOf 56 = 64 := by kernel_rfl
/-- The door's own heap meets the condition. -/
theorem door_met (os : Os) (args : Array Value) : laidMetH Tryd.prog [("math/bits.deBruijn64tab", Rows.laid_math_bits_deBruijn64tab)] ((World.doorLaid Tryd.prog 14 os).forCall (fun _ _ => 0) ⟨#[], args, []⟩).memory :=
  laidMetH_of_parts3 (fuel := 8) (laidMet_of_run' 8 (by kernel_rfl) (by kernel_rfl)) (by kernel_rfl) (by kernel_rfl)
/-- The table's condition gives the walks' fact. -/
theorem tab_of_laid {W : World} (h : laidMetH Tryd.prog [("math/bits.deBruijn64tab", Rows.laid_math_bits_deBruijn64tab)] W) : Tab W := by
  rw [MakeChecks.laidMetH_plain _ _ _ (by kernel_rfl)] at h
  have h' : laidMet Tryd.prog (("math/bits.deBruijn64tab", Lib.tabData .u8 (Lib.deBruijn64tab.map (fun (n : Nat) => (n : Int)))) :: []) W := h
  have ht := Lib.tabIs_of_head gTab tTab Tryd.underlying56 Tryd.underlying5 cellsU8 cellsTab h'
  have hc : ∀ j, j < 64 → W.cell? ⟨0, j, none⟩ = some (.int .u8 (Lib.deBruijn64tab.getD j 0)) := fun j hj => by
    rw [ht.cell gTab j (by simpa [Lib.deBruijn64tab] using hj)]
    congr 2
    have hl : j < Lib.deBruijn64tab.length := hj
    simp [List.getD, hl]
  refine ⟨?_, hc⟩
  have := hc 0 (by omega)
  obtain ⟨o, ho, _⟩ := cells_of_cell this
  exact (Array.getElem?_eq_some_iff.1 ho).1
theorem cellsSet : Tryd.prog.cellsOf 24 = 4 := by kernel_rfl
theorem okWide_set {W : World} {r : Reach} {base : Nat} {v : Value} (h : Value.okWide Tryd.prog W r base 24 v) : ∃ cs, v = .agg cs ∧ cs.size = 4 := by
  simp only [Value.okWide, Tryd.underlying24] at h
  obtain ⟨cs, h1, h2, _⟩ := h
  exact ⟨cs, h1, h2.trans cellsSet⟩
theorem nat_u64 {n : Int} (h : (Lit.int .u64 n).wf = true) : ∃ m : Nat, n = m ∧ m < 18446744073709551616 := by
  have h2 := bounds_u64 h
  exact ⟨n.toNat, by omega, by omega⟩
/-- A set that comes in. -/
theorem open_set {H : Type} {enc : TypeId × Value → H} {W : World} {r : Reach} {base : Nat} {v : Value} {d : DataW H} {p : List MemPlace} (hv : Value.okWide Tryd.prog W r base 24 v)
    (h : DataW.Trod enc Tryd.prog W 0 (fun _ => true) true 24 v d p) : ∃ s : BitVec 256, v = (.agg #[.int .u64 (wd (s) 0), .int .u64 (wd (s) 1), .int .u64 (wd (s) 2), .int .u64 (wd (s) 3)]) ∧ p = [] := by
  obtain ⟨cs, rfl, hsz⟩ := okWide_set hv
  obtain ⟨c0, c1, c2, c3, rfl⟩ := Joins.array4 hsz
  obtain ⟨fuel, hf⟩ := h
  obtain ⟨xs, m, rfl, hx, _, hl, hel⟩ := DataW.trod_array Tryd.underlying24 hf
  rw [cellsU64] at hel
  have k0 := hel 0 (by omega)
  have k1 := hel 1 (by omega)
  have k2 := hel 2 (by omega)
  have k3 := hel 3 (by omega)
  match xs, hl, hx, k0, k1, k2, k3 with
  | [x0, x1, x2, x3], _, hx, k0, k1, k2, k3 =>
    simp [Value.cells] at k0 k1 k2 k3
    obtain ⟨n0, e0, rfl, w0⟩ := DataW.trod_int Tryd.underlying22 k0
    obtain ⟨n1, e1, rfl, w1⟩ := DataW.trod_int Tryd.underlying22 k1
    obtain ⟨n2, e2, rfl, w2⟩ := DataW.trod_int Tryd.underlying22 k2
    obtain ⟨n3, e3, rfl, w3⟩ := DataW.trod_int Tryd.underlying22 k3
    simp at e0 e1 e2 e3
    subst e0 e1 e2 e3
    obtain ⟨m0, rfl, l0⟩ := nat_u64 w0
    obtain ⟨m1, rfl, l1⟩ := nat_u64 w1
    obtain ⟨m2, rfl, l2⟩ := nat_u64 w2
    obtain ⟨m3, rfl, l3⟩ := nat_u64 w3
    obtain ⟨s, s0, s1, s2, s3⟩ := setV_mk m0 m1 m2 m3 l0 l1 l2 l3
    refine ⟨s, by rw [s0, s1, s2, s3], ?_⟩
    simp only [Prod.mk.injEq] at hx
    rw [hx.2]
    rfl
end Go.Proofs.YtocllbdfdmpopaaDoor
