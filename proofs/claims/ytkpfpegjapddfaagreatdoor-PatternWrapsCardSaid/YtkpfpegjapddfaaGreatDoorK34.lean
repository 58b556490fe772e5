/- Texts that a proof rests on: PatternWraps answers true. -/
import Derived.Test.YtkpfpegjapddfaaGreatDoorK29
import Derived.Test.YtkpfpegjapddfaaGreatDoorK32
import Derived.Test.YtkpfpegjapddfaaGreatDoorK33
set_option maxRecDepth 20000
namespace Go.Proofs.YtkpfpegjapddfaaGreatDoor
open Go.RowKit

theorem u_list (s : ByteArray) : (⟨#[40]⟩ ++ s ++ ⟨#[41]⟩ : ByteArray).data.toList = 40 :: (s.data.toList ++ [41]) := by
  simp [ByteArray.data_append]
theorem v_list (s t : ByteArray) : (s ++ ⟨#[124]⟩ ++ t : ByteArray).data.toList = s.data.toList ++ (124 :: t.data.toList) := by
  simp [ByteArray.data_append]
theorem wraps_any (s t : ByteArray) (w : World) (hL : Lay w) : Calls Tryz.prog 6 #[.string s, .string t] w fun e w' => e = .returned (.bool true) ∧ Below w.heap.size w w' := by
  by_cases hbig : 100 < s.size ∨ 100 < t.size
  · exact wraps_big s t hbig w hL
  · have hs : s.size ≤ 100 := by omega
    have ht : t.size ≤ 100 := by omega
    clear hbig
    rcases par_of s with ⟨n, hsn, HS⟩ | ⟨d, hsd, HS⟩
    rotate_left
    · rcases par_of t with ⟨m, _, HM⟩ | ⟨_, _, HM⟩
      · exact wraps_bad s t hs ht d hsd _ _ HM w hL
      · exact wraps_bad s t hs ht d hsd _ _ HM w hL
    · have hv2 : (s ++ ⟨#[124]⟩ ++ t : ByteArray).size ≤ 20000 := by rw [v_size]; omega
      have hu2 : (⟨#[40]⟩ ++ s ++ ⟨#[41]⟩ : ByteArray).size ≤ 20000 := by rw [u_size]; omega
      rcases par_of (⟨#[40]⟩ ++ s ++ ⟨#[41]⟩) with ⟨z, huz, HU⟩ | ⟨_, _, HU⟩
      · have hzn := wrap_same hsn (u_list s) huz
        have hz : z.same n = true := by rw [hzn]; exact same_self n
        have hzs := whole_small hu2 huz
        rcases par_of t with ⟨m, htm, HM⟩ | ⟨_, _, HM⟩
        rotate_left
        · exact wraps_1t s t hs ht n _ z HS HU hz hzs HM w hL
        · by_cases hn : n.op = 2
          · exact wraps_1n s t hs ht n m z HS HU hz hzs HM (by simp [hn]) w hL
          · by_cases hm : m.op = 2
            · exact wraps_1m s t hs ht n m z HS HU hz hzs HM (by simp [hn]) (by simp [hm]) w hL
            · rcases par_of (s ++ ⟨#[124]⟩ ++ t) with ⟨v, hvv, HV⟩ | ⟨_, _, HV⟩
              · have hvn := bar_alt hsn htm hn hm (v_list s t) hvv
                have hvs := whole_small hv2 hvv
                exact wraps_1v s t hs ht n m z v HS HU hz hzs HM (by simp [hn]) (by simp [hm]) HV (by show v.same _ = true; rw [hvn]; exact same_self _) hvs w hL
              · exact wraps_1e s t hs ht n m z _ HS HU hz hzs HM (by simp [hn]) (by simp [hm]) HV w hL
      · rcases par_of t with ⟨m, htm, HM⟩ | ⟨_, _, HM⟩
        rotate_left
        · exact wraps_0t s t hs ht n _ _ HS HU HM w hL
        · by_cases hn : n.op = 2
          · exact wraps_0n s t hs ht n m _ HS HU HM (by simp [hn]) w hL
          · by_cases hm : m.op = 2
            · exact wraps_0m s t hs ht n m _ HS HU HM (by simp [hn]) (by simp [hm]) w hL
            · rcases par_of (s ++ ⟨#[124]⟩ ++ t) with ⟨v, hvv, HV⟩ | ⟨_, _, HV⟩
              · have hvn := bar_alt hsn htm hn hm (v_list s t) hvv
                have hvs := whole_small hv2 hvv
                exact wraps_0v s t hs ht n m _ v HS HU HM (by simp [hn]) (by simp [hm]) HV (by show v.same _ = true; rw [hvn]; exact same_self _) hvs w hL
              · exact wraps_0e s t hs ht n m _ _ HS HU HM (by simp [hn]) (by simp [hm]) HV w hL
end Go.Proofs.YtkpfpegjapddfaaGreatDoor
