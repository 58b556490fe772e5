/- Texts that a proof rests on: strconv.Atoi at nineteen digits and more. -/
import Derived.Test.YtkpfpegjapddfaaGreatDoorK24
import Derived.Test.YtkpfpegjapddfaaGreatDoorK20
import Derived.Lib.UnsafeStr
set_option maxRecDepth 20000
namespace Go.Proofs.YtkpfpegjapddfaaGreatDoor
open Go.RowKit

theorem atoiBig : AtoiBig := by
  intro z _ _ hz
  rcases h : Lib.atoiAll z.data.toList with v | _ | _
  · refine .inl ⟨v, fun w _ => (Tryz.strconv_Atoi_ok z (by omega) v h w).mono ?_⟩
    rintro e w' ⟨rfl, rfl | ⟨t, rfl⟩⟩
    · exact ⟨rfl, Below.refl _ _⟩
    · exact ⟨rfl, Lib.below_freeze (((Below.refl _ w).drew).alloc (Nat.le_refl _) _) (p := ⟨w.heap.size, _, none⟩) (Nat.le_refl _) _⟩
  · refine .inr fun w hL => ?_
    obtain ⟨_, ⟨_, t, v, hc⟩, _⟩ := hL
    refine (Any.strconv_Atoi_syntax Tryz.laysC172 z (by omega) h _ w hc (.inr ⟨t, v, rfl⟩)).mono ?_
    rintro e w' ⟨N, rfl, _, _, hb⟩
    exact ⟨_, _, _, rfl, hb⟩
  · refine .inr fun w hL => ?_
    obtain ⟨_, _, _, t, v, hc⟩ := hL
    refine (Tryz.strconv_Atoi_range z (by omega) h _ w hc (.inr ⟨t, v, rfl⟩)).mono ?_
    rintro e w' ⟨N, rfl, _, _, hb⟩
    exact ⟨_, _, _, rfl, hb⟩
theorem parse_all (s : ByteArray) (hs : s.size ≤ 20000) (w : World) (hL : Lay w) :
    Calls Tryz.prog 14 #[.string s] w fun e w' => ParsePost s w e w' := parse_text s hs (fun _ => atoiBig) w hL
end Go.Proofs.YtkpfpegjapddfaaGreatDoor
