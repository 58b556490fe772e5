/- Contract: Put. -/
import Derived.Test.YtmhjabodhgacnaaPQ
import Derived.Test.YtmhjabodhgacnaaPL
set_option maxRecDepth 100000
namespace Go.Proofs.Ytmhjabodhgacnaa
open Go.RowKit

theorem head_own {w : World} {B : Nat} (h : B ≤ w.heap.size) : OwnF (w.alloc headO) B (.slice (some ⟨w.heap.size, 0, none⟩) 4 4) headB :=
  .inr ⟨w.heap.size, _, _, rfl, h, head_at w, heap_alloc_new w headO⟩
theorem four_news {w : World} {b : Nat} {t : TypeId} {p0 p1 p2 p3 : Nat} (h : w.heap[b]? = some (.cells #[.int .u8 p0, .int .u8 p1, .int .u8 p2, .int .u8 p3] t (0, 0))) : ∀ j u, (u8s [p0, p1, p2, p3])[j]? = some u → w.cell? ((⟨b, 0, none⟩ : Addr).add j) = some u := by
  intro j u hj
  exact World.news_of_block h j u (by simpa [u8s] using hj)
/-- What Put tells. -/
def PutP (m : List Sta) (w : World) (e : Ending) (w' : World) : Prop := ∃ u, e = .returned (.tuple #[u, .int .i64 (errV (checkB m))]) ∧ Hid (OwnF w' w.heap.size u (if checkB m then putB m else [])) ∧ Hid (Below w.heap.size w w')
set_option maxHeartbeats 8000000 in
theorem put_any (v : Value) (m : List Sta) (w : World) (hv : MachAt w v m) (hl : ∀ s ∈ m, s.arcs.length < 9223372036854775808) (hm : Mays m) :
    Calls Try.prog 9 #[v] w (PutP m w) := by
  obtain ⟨B, hB⟩ : ∃ B, w.heap.size = B := ⟨_, rfl⟩
  have HB := Lib.hid hB
  have HCK := Lib.hid (check_any v m w hv hl hm)
  have HV := Lib.hid hv
  obtain ⟨av, cv, rfl⟩ := hv.len
  have HGS := Lib.hid (fun h => good_st (m := m) h hm)
  clear hv hl hm
  cases hc : checkB m
  · have HC := Lib.hid hc
    rw [hc] at HCK
    have HCK : Hid (Calls Try.prog 22 #[.slice av m.length cv] w fun e w' => e = .returned (.int .i64 110) ∧ Below w.heap.size w w') := HCK
    clear hc
    go_enter Try.func9, Try.ntmps9
    go_wp2_with (go_at_call 22; (with_reducible refine HCK.out.mono ?_); rintro e w2 ⟨rfl, hb2⟩)
    go_ret2
    exact ⟨_, by rw [HC.out]; rfl, by rw [HC.out]; exact Lib.hid (OwnF.nil _ _), Lib.hid hb2⟩
  · have HC := Lib.hid hc
    rw [hc] at HCK
    have HCK : Hid (Calls Try.prog 22 #[.slice av m.length cv] w fun e w' => e = .returned (.int .i64 0) ∧ Below w.heap.size w w') := HCK
    have hml : m.length ≤ 4096 := good_len hc
    have HOS := Lib.hid (HGS.out hc)
    have hwr : IntKind.u64.wrap (m.length : Int) = (m.length : Int) := by rw [IntKind.wrap_u64]; omega
    clear hc HGS
    have kc := conv_head
    go_enter Try.func9, Try.ntmps9
    go_upto_region 4 with (first
      | (go_at_call 22; (with_reducible refine HCK.out.mono ?_); rintro e w2 ⟨rfl, hb2⟩; have HB2 := Lib.hid hb2; have hB2 : B ≤ w2.heap.size := (by rw [← HB.out]; exact hb2.size); have HBZ2 := Lib.hid hB2; have HN2 := Lib.hid (appnum1 B (w2.heap.size + 1) (.slice (some ⟨w2.heap.size, 0, none⟩) 4 4) headB m.length m.length rfl ((w2.alloc headO).alloc (.cells #[.int .u64 m.length] 24)) ((head_own hB2).below (new_one _ _)) (by have := heap_alloc_new (w2.alloc headO) (.cells #[.int .u64 m.length] 24); rw [World.size_alloc] at this; exact this) (by omega) (by decide) (by simp; omega)); clear hb2)
      | (go_at_call 23; (with_reducible refine HN2.out.mono ?_); rintro e w3 ⟨v3, rfl, ho3, hg3⟩))
    have HB3 : Hid (Below B w w3) := Lib.hid (((by rw [← HB.out]; exact HB2.out : Below B w w2).trans (((new_one w2 headO).trans ((new_one (w2.alloc headO) _).mono (by simp))).mono HBZ2.out)).trans (((head_own HBZ2.out).below (new_one _ _)).gr hg3.out (by simp; have := HBZ2.out; omega)))
    obtain ⟨L0, hL0⟩ : ∃ L0, headB ++ numB m.length = L0 := ⟨_, rfl⟩
    have HBO := Lib.hid (show bodyB m = L0 ++ m.flatMap stB from by rw [← hL0, List.append_assoc]; rfl)
    have HL0 : Hid (L0.length ≤ 14) := Lib.hid (by rw [← hL0, List.length_append]; have := numB_ten (n := m.length) (by omega); show 4 + _ ≤ 14; omega)
    rw [hL0] at ho3
    clear hL0 hg3 kc hwr HN2 HCK
    go_wp2_with fail
    go_loopw [4, 20] (fun u i wr => ∃ k : Nat, i = .int .i64 k ∧ k ≤ m.length ∧ Hid (OwnF wr B u (L0 ++ (m.take k).flatMap stB)) ∧ Hid (Below B w wr)) (fun _ i _ => m.length - (intOf i).toNat)
    case atStart => exact ⟨0, rfl, Nat.zero_le _, by rw [List.take_zero, List.flatMap_nil, List.append_nil]; exact ho3, HB3⟩
    case round =>
      clear HB3 ho3
      obtain ⟨k, rfl, hk, HO, HBW⟩ := hrel
      have HLL : Hid ((L0 ++ (m.take k).flatMap stB).length ≤ 14 + 4000 * 4096) := Lib.hid (by
        rw [List.length_append]
        have h1 := flat_le stB 4000 (m.take k) fun x hx => stB_len (HOS.out x (List.mem_of_mem_take hx))
        rw [List.length_take] at h1
        have := HL0.out
        omega)
      have hBr : B ≤ wr.heap.size := by rw [← HB.out]; exact HBW.out.size
      have HBR := Lib.hid hBr
      by_cases hlt : k < m.length
      · have hd : decide ((k : Int) < m.length) = true := decide_eq_true (by omega)
        have hki : (k : Int) < m.length := by omega
        obtain ⟨b, o, va, rfl, e0, e1, ha⟩ := HV.out.at rfl hlt
        have hbw := HBW.out
        rw [← HB.out] at hbw
        replace e0 := cell_below hbw e0
        replace e1 := cell_below hbw e1
        have HSK := Lib.hid (HOS.out m[k] (List.getElem_mem hlt))
        have HTK := Lib.hid (show L0 ++ (m.take (k + 1)).flatMap stB = (L0 ++ (m.take k).flatMap stB) ++ stB m[k] from by rw [List.take_succ_eq_append_getElem hlt, List.flatMap_append, List.append_assoc]; simp)
        generalize m[k] = s at *
        generalize L0 ++ (m.take k).flatMap stB = L3 at *
        have HA := Lib.hid ha
        obtain ⟨aa, ca, rfl⟩ := ha.len
        have HAS := Lib.hid (appstate_any B u4 _ L3 s w (wr.alloc (.cells #[.int .u64 s.acc, .slice aa s.arcs.length ca] 54)) (HO.out.below (new_one wr _)) HA.out HB.out (HBW.out.trans ((new_one wr _).mono hBr)) HSK.out (by have := HLL.out; omega))
        have HOW := Lib.hid (HO.out.below (new_one wr (.cells #[.int .u64 s.acc, .slice aa s.arcs.length ca] 54)))
        clear hbw ha hBr
        obtain ⟨acc, arcs⟩ := s
        dsimp only at *
        generalize arcs.length = al at *
        go_wp2_with (go_at_call 24; (with_reducible refine HAS.out.mono ?_); rintro e w9 ⟨v9, rfl, ho9, hg9⟩; have HO9 := ho9; have HB9 : Hid (Below B w w9) := Lib.hid ((HBW.out.trans ((new_one wr _).mono HBR.out)).trans (HOW.out.gr hg9.out (by simp; have := HBR.out; omega))); clear ho9 hg9)
        exact ⟨⟨k + 1, rfl, hlt, by rw [HTK.out]; exact HO9, HB9⟩, by simp only [intOf]; omega⟩
      · obtain rfl : k = m.length := by omega
        have hd : decide ((m.length : Int) < m.length) = false := by simp
        have HT := Lib.hid (List.take_length (l := m))
        rw [HT.out, ← HBO.out] at HO
        rw [HT.out, ← HBO.out] at HLL
        have HSE := Lib.hid (seal_any u4 (bodyB m) wr HO.out.bytes (by have := HLL.out; omega) (bodyB_bytes HOS.out))
        have HPE := Lib.hid (show putB m = bodyB m ++ fourB (sumB (bodyB m)) from rfl)
        obtain ⟨p0, p1, p2, p3, hp⟩ := four_form (fourB_len (sumB (bodyB m)))
        rw [hp] at HSE HPE
        have HSE : Hid (Calls Try.prog 25 #[u4] wr fun e w' => e = .returned (.agg #[.int .u8 p0, .int .u8 p1, .int .u8 p2, .int .u8 p3]) ∧ Below wr.heap.size wr w') := HSE
        obtain ⟨a4, c4, hu4⟩ := HO.out.form
        obtain ⟨n4, hn4⟩ : ∃ n4, (bodyB m).length = n4 := ⟨_, rfl⟩
        have HN4 := Lib.hid hn4
        rw [hn4] at hu4 HLL
        subst hu4
        clear hp hn4 hBr
        go_upto_region 10 with (go_at_call 25; (with_reducible refine HSE.out.mono ?_); rintro e w5 ⟨rfl, hb5⟩)
        have hb6 := hb5.trans ((new_one w5 (.cells #[.int .u8 p0, .int .u8 p1, .int .u8 p2, .int .u8 p3] 56)).mono hb5.size)
        have HOZ := Lib.hid (HO.out.below hb6)
        have HB6 : Hid (Below B w (w5.alloc (.cells #[.int .u8 p0, .int .u8 p1, .int .u8 p2, .int .u8 p3] 56))) := Lib.hid (HBW.out.trans (hb6.mono HBR.out))
        have HBZ6 : Hid (B ≤ (w5.alloc (.cells #[.int .u8 p0, .int .u8 p1, .int .u8 p2, .int .u8 p3] 56)).heap.size) := Lib.hid (by have := HB6.out.size; have := HB.out; omega)
        have HLN : Hid (n4 + 4 ≤ 100000000) := Lib.hid (by have := HLL.out; omega)
        clear hb5 hb6
        go_wp2_with (at_builtin; refine wpList_append_of rfl _ _ rfl B (.slice a4 n4 c4) (bodyB m) [p0, p1, p2, p3] n4 HN4.out rfl HOZ.out ⟨w5.heap.size, 0, none⟩ 4 4 rfl rfl (four_news (heap_alloc_new w5 _)) (by omega) HLN.out HBZ6.out ?_; intro g2 cap2 w8 h2 h3 h4; have HO8 := Lib.hid h2; have HG8 := Lib.hid h4; clear h2 h3 h4)
        go_ret2
        exact ⟨_, by rw [HC.out]; rfl, by rw [HC.out, HPE.out, HB.out]; exact HO8, by rw [HB.out]; exact Lib.hid (HB6.out.trans (HOZ.out.gr HG8.out HBZ6.out))⟩
end Go.Proofs.Ytmhjabodhgacnaa
