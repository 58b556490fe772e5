/- The walk of BytesetJoins. -/
import Derived.Test.YtocllbdfdmpopaaDoorW0
import Derived.Test.YtocllbdfdmpopaaDoorJ3
set_option maxRecDepth 20000
namespace Go.Proofs.YtocllbdfdmpopaaDoor
open Go.RowKit
theorem cut_sl (v : Value) (l : List (BitVec 256)) (w : World) (hT : Tab w) (hv : Sl w v l) :
    Calls Tryd.prog 29 #[v] w fun e w' => ∃ r, e = .returned r ∧ Sl w' r (cutL l) ∧ Below w.heap.size w w' := by
  refine (cut_any v l w hT hv).mono ?_
  rintro e w' ⟨r, rfl, hr, hb⟩
  have := reps_length l 256
  exact ⟨r, rfl, sl_of_row (by unfold cutL maxLen; rw [List.length_map]; omega) hr, hb⟩
theorem rcut_sl (v : Value) (l : List (BitVec 256)) (w : World) (hv : Sl w v l) :
    Calls Tryd.prog 30 #[v] w fun e w' => ∃ r, e = .returned r ∧ Sl w' r (cutL l) ∧ Below w.heap.size w w' := by
  refine (rcut_any v l w hv).mono ?_
  rintro e w' ⟨r, rfl, hr, hb⟩
  have := reps_length l 256
  exact ⟨r, rfl, sl_of_row (by unfold cutL maxLen; rw [List.length_map]; omega) hr, hb⟩
theorem sl_form {w : World} {v : Value} {l : List (BitVec 256)} (h : Sl w v l) : ∃ ad cap, v = .slice ad l.length cap := by
  rcases h.2 with ⟨rfl, a, c, rfl⟩ | ⟨b, off, c, rfl, _⟩
  · exact ⟨a, c, rfl⟩
  · exact ⟨_, c, rfl⟩
set_option maxHeartbeats 1000000 in
theorem joins_any (v : Value) (l : List (BitVec 256)) (w : World) (hT : Tab w) (hv : Sl w v l) :
    Calls Tryd.prog 5 #[v] w fun e w' => e = .returned (.bool true) ∧ Below w.heap.size w w' := by
  obtain ⟨ad, cap, rfl⟩ := sl_form hv
  have hl := hv.1
  unfold maxLen at hl
  have HV := Lib.hid hv
  clear hv
  by_cases h12 : 12 < l.length
  · go_enter Tryd.func5, Tryd.ntmps5
    go_wp2_with (go_at_call 8; refine (awake_any _ hT).mono ?_; rintro e w1 ⟨rfl, hb1⟩)
    go_ret
    exact ⟨rfl, hb1⟩
  · have q1 := eq_set_same (unionL l)
    have q2 := eq_set_same (interL l)
    go_enter Tryd.func5, Tryd.ntmps5
    go_wp2_with (first
      | (go_at_call 8; refine (awake_any _ hT).mono ?_; rintro e w1 ⟨rfl, hb1⟩; have H1 := HV.out.below hb1)
      | (go_at_call 24; refine (union_any _ l _ H1).mono ?_; rintro e w2 ⟨rfl, hb2⟩; have H2 := H1.below hb2)
      | (go_at_call 25; refine (runion_any _ l _ H2).mono ?_; rintro e w3 ⟨rfl, hb3⟩; have H3 := H2.below hb3)
      | (go_at_call 26; refine (inter_any _ l _ H3).mono ?_; rintro e w4 ⟨rfl, hb4⟩; have H4 := H3.below hb4)
      | (go_at_call 27; refine (rinter_any _ l _ H4).mono ?_; rintro e w5 ⟨rfl, hb5⟩; have H5 := H4.below hb5; have a2 := hb1.trans (hb2.mono hb1.size); have a3 := a2.trans (hb3.mono a2.size); have a4 := a3.trans (hb4.mono a3.size); have a5 := a4.trans (hb5.mono a4.size); clear a2 a3 a4)
      | (go_at_call 29; refine (cut_sl _ l _ (hT.below a5) H5).mono ?_; rintro e w6 ⟨r1, rfl, hr1, hb6⟩; have H6 := H5.below hb6)
      | (go_at_call 30; refine (rcut_sl _ l _ H6).mono ?_; rintro e w7 ⟨r2, rfl, hr2, hb7⟩; have hr1' := hr1.below hb7)
      | (go_at_call 28; refine (same_same _ _ _ _ hr1' hr2).mono ?_; rintro e w8 ⟨rfl, hb8⟩))
    go_ret
    have a6 := a5.trans (hb6.mono a5.size)
    have a7 := a6.trans (hb7.mono a6.size)
    exact ⟨rfl, a7.trans (hb8.mono a7.size)⟩
end Go.Proofs.YtocllbdfdmpopaaDoor
