/- Texts that a proof rests on: What the rows of layer 6 share: the table's condition, a row of numbers as an argument. -/
import Derived.Test.YtpfhhdiipedklaaDoorK29
import Derived.Test.YtpfhhdiipedklaaDoorK40
import Derived.Test.YtpfhhdiipedklaaDoorTie
import Derived.Test.YtpfhhdiipedklaaDoorCards
import Derived.ProofKit
import Derived.LaidMore
import Derived.OpenShut
import Derived.Stop.Joined
import Derived.Lib.LaidTab
import Derived.Lib.SmallJoins
import Derived.ChangeSlices
set_option maxRecDepth 100000
namespace Go.Proofs.YtpfhhdiipedklaaDoor
open Go.ChangeShapes Go.WideShapes Go.ChangeAt Go.RowKit
open Go.ChangeMaps (open_string shut_string)

theorem own : ownKnob Tryd.prog.godebug = none := by kernel_rfl
theorem laidOut : laidOutB Tryd.prog = true := by kernel_rfl
theorem gTab : Tryd.prog.globalNamed "math/bits.deBruijn64tab" = some 0 := by kernel_rfl
theorem tTab : (Tryd.prog.globals[0]?).map (·.type) = some 124 := by kernel_rfl
theorem cellsTab : Tryd.prog.cellsOf 124 = 64 := by kernel_rfl
/-- The door's own heap meets the condition. -/
theorem door_met (os : Os) (args : Array Value) : laidMetH Tryd.prog [("math/bits.deBruijn64tab", Rows.laid_math_bits_deBruijn64tab)] ((World.doorLaid Tryd.prog 14 os).forCall (fun _ _ => 0) ⟨#[], args, []⟩).memory :=
  laidMetH_of_parts3 (fuel := 8) (laidMet_of_run' 8 (by kernel_rfl) (by kernel_rfl)) (by kernel_rfl) (by kernel_rfl)
/-- The table's condition gives the walks' fact. -/
theorem tab_of_laid {W : World} (h : laidMetH Tryd.prog [("math/bits.deBruijn64tab", Rows.laid_math_bits_deBruijn64tab)] W) : Tab W := by
  rw [MakeChecks.laidMetH_plain _ _ _ (by kernel_rfl)] at h
  have h' : laidMet Tryd.prog (("math/bits.deBruijn64tab", Lib.tabData .u8 (Lib.deBruijn64tab.map (fun (n : Nat) => (n : Int)))) :: []) W := h
  have ht := Lib.tabIs_of_head gTab tTab Tryd.underlying124 Tryd.underlying5 cellsU8 cellsTab h'
  have hc : ∀ j, j < 64 → W.cell? ⟨0, j, none⟩ = some (.int .u8 (Lib.deBruijn64tab.getD j 0)) := fun j hj => by
    rw [ht.cell gTab j (by simpa [Lib.deBruijn64tab] using hj)]
    congr 2
    have hl : j < Lib.deBruijn64tab.length := hj
    simp [List.getD, hl]
  refine ⟨?_, hc⟩
  have := hc 0 (by omega)
  obtain ⟨o, ho, _⟩ := cells_of_cell this
  exact (Array.getElem?_eq_some_iff.1 ho).1
theorem cellsInt : Tryd.prog.cellsOf 3 = 1 := by kernel_rfl
/-- A row of numbers that comes in. -/
theorem open_numbers {H : Type} {enc : TypeId × Value → H} {W : World} {r : Go.Reach} {base : Nat} {v : Value} {d : DataW H} {p : List MemPlace} (hv : Value.okWide Tryd.prog W r base 22 v)
    (h : DataW.Trod enc Tryd.prog W 0 (fun _ => true) true 22 v d p) : ∃ L : List Int, IntsAt W v L := by
  obtain ⟨oa, n, cap, rfl⟩ := okWide_slice Tryd.underlying22 hv
  obtain ⟨fuel, hf⟩ := h
  rcases open_ints Tryd.underlying22 Tryd.underlying3 cellsInt hf with ⟨hcs, _⟩ | ⟨a, len', cap', zs, hcs, _, hl, _, hzl, _, hcell, _⟩
  · simp [Value.cells] at hcs
    obtain ⟨rfl, rfl, rfl⟩ := hcs
    exact ⟨[], IntsAt.nil W⟩
  · simp [Value.cells] at hcs
    obtain ⟨rfl, rfl, rfl⟩ := hcs
    simp only [if_true] at hzl
    have hlen : (zs.take n).length = n := by rw [List.length_take]; omega
    refine ⟨zs.take n, some a, cap, by rw [hlen], fun i hi => ?_⟩
    rw [hlen] at hi
    obtain ⟨bo, off, rfl, hc⟩ := ints_at hcell (by omega)
    refine ⟨bo, off, rfl, ?_⟩
    rw [hc i (by omega), List.getElem_take]
    simp [List.getD, show i < zs.length by omega]
end Go.Proofs.YtpfhhdiipedklaaDoor
