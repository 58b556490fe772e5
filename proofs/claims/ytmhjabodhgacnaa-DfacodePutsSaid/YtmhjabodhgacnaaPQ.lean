/- Contract: appendState. -/
import Derived.Test.YtmhjabodhgacnaaPP
set_option maxRecDepth 100000
namespace Go.Proofs.Ytmhjabodhgacnaa
open Go.RowKit

theorem appnum1 (B b : Nat) (v : Value) (L : List Nat) (x : Nat) (z : Int) (hz : z = (x : Int)) (w : World) (h : OwnF w B v L) (hb : w.heap[b]? = some (.cells #[.int .u64 z] 24 (0, 0))) (hx : x < 18446744073709551616) (hlen : L.length + 10 ≤ 100000000) (hB : B ≤ w.heap.size) :
    Calls Try.prog 23 #[v, .slice (some ⟨b, 0, none⟩) 1 1] w fun e w' => ∃ v', e = .returned v' ∧ Hid (OwnF w' B v' (L ++ numB x)) ∧ Hid (Gr w w' v v') := by
  subst hz
  have h := appnum_any B b v L [x] w h hb (by simpa using hx) (by simpa using hlen) hB
  rw [show [x].flatMap numB = numB x by simp] at h
  exact h
theorem appnum2 (B b : Nat) (v : Value) (L : List Nat) (x y : Nat) (z t : Int) (hz : z = (x : Int)) (ht : t = (y : Int)) (w : World) (h : OwnF w B v L) (hb : w.heap[b]? = some (.cells #[.int .u64 z, .int .u64 t] 24 (0, 0))) (hx : x < 18446744073709551616) (hy : y < 18446744073709551616) (hlen : L.length + 20 ≤ 100000000) (hB : B ≤ w.heap.size) :
    Calls Try.prog 23 #[v, .slice (some ⟨b, 0, none⟩) 2 2] w fun e w' => ∃ v', e = .returned v' ∧ Hid (OwnF w' B v' (L ++ (numB x ++ numB y))) ∧ Hid (Gr w w' v v') := by
  subst hz ht
  have h := appnum_any B b v L [x, y] w h hb (by intro n hn; simp at hn; omega) (by simpa using hlen) hB
  rw [show [x, y].flatMap numB = numB x ++ numB y by simp] at h
  exact h
theorem two_bytes {w : World} {b : Nat} {z t : Int} {x y : Nat} (hz : z = (x : Int)) (ht : t = (y : Int)) (h : w.heap[b]? = some (.cells #[.int .u8 z, .int .u8 t] 5 (0, 0))) : ∀ j u, (u8s [x, y])[j]? = some u → w.cell? ((⟨b, 0, none⟩ : Addr).add j) = some u := by
  intro j u hj
  subst hz ht
  exact World.news_of_block h j u (by simpa [u8s] using hj)
theorem OwnF.gr {w w' : World} {v v' : Value} {B : Nat} {l : List Nat} (h : OwnF w B v l) (hg : Gr w w' v v') (hB : B ≤ w.heap.size) : Below B w w' := hg.below hB fun k hk => (h.base k hk).1
set_option maxHeartbeats 8000000 in
theorem appstate_any (B : Nat) (v av : Value) (L : List Nat) (s : Sta) (w0 w : World) (h : OwnF w B v L) (ha : ArcsAt w0 av s.arcs) (hw0 : w0.heap.size = B) (hw : Below B w0 w) (hs : OkS s) (hlen : L.length + 4000 ≤ 90000000) :
    Calls Try.prog 24 #[v, .agg #[.int .u64 s.acc, av]] w fun e w' => ∃ v', e = .returned v' ∧ Hid (OwnF w' B v' (L ++ stB s)) ∧ Hid (Gr w w' v v') := by
  obtain ⟨acc, arcs⟩ := s
  dsimp only at ha ⊢
  obtain ⟨aa, ca, rfl⟩ := ha.len
  have HA := Lib.hid (fun W (hW : Below B w0 W) => ha.below (by rw [hw0]; exact hW))
  have hBw : B ≤ w.heap.size := by rw [← hw0]; exact hw.size
  obtain ⟨S, hS⟩ : ∃ S, w.heap.size = S := ⟨_, rfl⟩
  obtain ⟨w1, hw1⟩ : ∃ w1, w.alloc (.cells #[.int .u64 acc, .slice aa arcs.length ca] 54) = w1 := ⟨_, rfl⟩
  have HX1 : Hid (w1.heap[S]? = some (.cells #[.int .u64 acc, .slice aa arcs.length ca] 54 (0, 0))) := Lib.hid (by rw [← hw1, ← hS]; exact heap_alloc_new w _)
  have HO1 : Hid (OwnF w1 B v L) := Lib.hid (by rw [← hw1]; exact h.below (new_one w _))
  have HG1 : Hid (Gr w w1 v v) := Lib.hid (by rw [← hw1]; exact Gr.ofBelow (new_one w _))
  have HB1 : Hid (Below B w0 w1) := Lib.hid (by rw [← hw1]; exact hw.trans ((new_one w _).mono hBw))
  have hBz1 : B ≤ w1.heap.size := by rw [← hw1]; simp; omega
  have HBZ1 := Lib.hid hBz1
  have hacc : acc < 18446744073709551616 := hs.1
  have hal : arcs.length ≤ 256 := hs.2.1
  have HOA : Hid (∀ a ∈ arcs, OkA a) := Lib.hid hs.2.2
  have HST := Lib.hid (show stB ⟨acc, arcs⟩ = (numB acc ++ numB arcs.length) ++ arcs.flatMap arB from by unfold stB; rw [List.append_assoc])
  have hlal : ((arcs.length : Nat) : Int) < 9223372036854775808 := by omega
  have k0 := (cell_of_row w1 S 0 _ _ _ HX1.out).trans rfl
  have k1 := (cell_of_row w1 S 1 _ _ _ HX1.out).trans rfl
  have HW0 := Lib.hid hw0
  clear ha hs hw hw0 h hBw
  have HN1 := Lib.hid (appnum2 B w1.heap.size v L acc arcs.length acc arcs.length rfl rfl (w1.alloc (.cells #[.int .u64 acc, .int .u64 arcs.length] 24)) (HO1.out.below (new_one w1 _)) (heap_alloc_new w1 _) hacc (by omega) (by omega) (by simp; omega))
  have hwr : IntKind.u64.wrap (arcs.length : Int) = (arcs.length : Int) := by rw [IntKind.wrap_u64]; omega
  rw [HST.out]
  have HAC := Lib.hid hacc
  have HAL := Lib.hid hal
  clear hacc HST hlal
  go_enter Try.func24, Try.ntmps24
  go_upto_region 2 with (go_at_call 23; (with_reducible refine HN1.out.mono ?_); rintro e w2 ⟨v2, rfl, ho2, hg2⟩)
  have HG2 : Hid (Gr w w2 v v2) := Lib.hid (HG1.out.trans ((Gr.ofBelow (new_one w1 _)).trans hg2.out))
  have HOX := Lib.hid (HO1.out.below (new_one w1 (.cells #[.int .u64 acc, .int .u64 arcs.length] 24)))
  have HB2 : Hid (Below B w0 w2) := Lib.hid ((HB1.out.trans ((new_one w1 _).mono HBZ1.out)).trans (HOX.out.gr hg2.out (by simp; have := HBZ1.out; omega)))
  have HX3 := Lib.hid ((heap_alloc_old w1 (.cells #[.int .u64 acc, .int .u64 arcs.length] 24) (lt_of_block HX1.out)).trans HX1.out)
  have hx2 := (hg2.out.g.block S (lt_of_block HX3.out) (HOX.out.type HX3.out (by decide))).trans HX3.out
  have k2 := (cell_of_row w2 S 1 _ _ _ hx2).trans rfl
  obtain ⟨a2, c2, rfl⟩ := ho2.out.form
  have HL2 : Hid ((L ++ (numB acc ++ numB arcs.length)).length ≤ L.length + 20) := Lib.hid (by
    rw [List.length_append, List.length_append]
    have := numB_ten HAC.out
    have := numB_ten (n := arcs.length) (by have := HAL.out; omega)
    omega)
  obtain ⟨L2, hLE⟩ : ∃ L2, L ++ (numB acc ++ numB arcs.length) = L2 := ⟨_, rfl⟩
  have HLE := Lib.hid hLE
  rw [hLE] at ho2 HG2 HL2 ⊢
  clear hLE
  clear hg2 hx2 HX3 HN1 HOX HG1
  clear k0 k1 hwr
  go_wp2_with fail
  go_loopw [0, 19] (fun u i wr => ∃ k : Nat, i = .int .i64 k ∧ k ≤ arcs.length ∧ Hid (OwnF wr B u (L2 ++ (arcs.take k).flatMap arB)) ∧ Hid (Gr w wr v u) ∧ Hid (Below B w0 wr)) (fun _ i _ => arcs.length - (intOf i).toNat)
  case atStart => exact ⟨0, rfl, Nat.zero_le _, by rw [List.take_zero, List.flatMap_nil, List.append_nil]; exact ho2, HG2, HB2⟩
  case round =>
    clear k2 HG2 HB2 ho2
    obtain ⟨k, rfl, hk, HO, HG, HB⟩ := hrel
    by_cases hlt : k < arcs.length
    · have hd : decide ((k : Int) < arcs.length) = true := decide_eq_true (by omega)
      have hki : (k : Int) < arcs.length := by omega
      obtain ⟨b, o, rfl, e0, e1, e2⟩ := (HA.out wr HB.out).at rfl hlt
      have HOK := Lib.hid (HOA.out arcs[k] (List.getElem_mem hlt))
      have HTK := Lib.hid (show L2 ++ (arcs.take (k + 1)).flatMap arB = (L2 ++ (arcs.take k).flatMap arB) ++ arB arcs[k] from by rw [List.take_succ_eq_append_getElem hlt, List.flatMap_append, List.append_assoc]; simp)
      have HLL : Hid ((L2 ++ (arcs.take k).flatMap arB).length ≤ L2.length + 12 * 256) := Lib.hid (by
        rw [List.length_append]
        have h1 := flat_le arB 12 (arcs.take k) fun x hx => arB_len (HOA.out x (List.mem_of_mem_take hx))
        rw [List.length_take] at h1
        have := HAL.out
        omega)
      generalize arcs[k] = x at *
      generalize L2 ++ (arcs.take k).flatMap arB = L3 at *
      obtain ⟨lo, hi, d0⟩ := x
      obtain ⟨d, rfl⟩ : ∃ d : Nat, d0 = d := ⟨d0.toNat, by have := HOK.out.2.2.1; simp only [] at this; omega⟩
      dsimp only at e0 e1 e2
      have hd64 : (d : Int) < 9223372036854775808 := by have := HOK.out.2.2.2; simp only [] at this; omega
      have hwd : IntKind.u64.wrap (d : Int) = (d : Int) := by rw [IntKind.wrap_u64]; omega
      clear hd64
      have HAR := Lib.hid (show arB ⟨lo, hi, (d : Int)⟩ = [lo, hi] ++ numB d from rfl)
      obtain ⟨n3, hn3⟩ : ∃ n3, L3.length = n3 := ⟨_, rfl⟩
      have HN3 := Lib.hid hn3
      obtain ⟨a3, c3, rfl⟩ := HO.out.form
      rw [hn3] at HO HG HLL ⊢
      clear hn3
      obtain ⟨Q, hQ⟩ : ∃ Q, wr.heap.size = Q := ⟨_, rfl⟩
      have HQ := Lib.hid hQ
      obtain ⟨wa, hwa⟩ : ∃ wa, wr.alloc (.cells #[.int .u8 lo, .int .u8 hi, .int .i64 d] 69) = wa := ⟨_, rfl⟩
      have HXA : Hid (wa.heap[Q]? = some (.cells #[.int .u8 lo, .int .u8 hi, .int .i64 d] 69 (0, 0))) := Lib.hid (by rw [← hwa, ← hQ]; exact heap_alloc_new wr _)
      have HOWA : Hid (OwnF wa B (.slice a3 n3 c3) L3) := Lib.hid (by rw [← hwa]; exact HO.out.below (new_one wr _))
      have HGA : Hid (Gr w wa v (.slice a3 n3 c3)) := Lib.hid (by rw [← hwa]; exact HG.out.trans (Gr.ofBelow (new_one wr _)))
      have hBr : B ≤ wr.heap.size := by rw [← HW0.out]; exact HB.out.size
      have HBA : Hid (Below B w0 wa) := Lib.hid (by rw [← hwa]; exact HB.out.trans ((new_one wr _).mono hBr))
      have hBa : B ≤ wa.heap.size := by rw [← HW0.out]; exact HBA.out.size
      have HBZA := Lib.hid hBa
      have q0 := (cell_of_row wa Q 0 _ _ _ HXA.out).trans rfl
      have q1 := (cell_of_row wa Q 1 _ _ _ HXA.out).trans rfl
      have HOB := Lib.hid (HOWA.out.below (new_one wa (.cells #[.int .u8 lo, .int .u8 hi] 5)))
      have HLN : Hid (n3 + 2 ≤ 100000000) := Lib.hid (by have := HLL.out; have := HL2.out; omega)
      clear hBr
      go_upto_region 6 with (at_builtin; refine wpList_append_of rfl _ _ rfl B (.slice a3 n3 c3) L3 [lo, hi] n3 HN3.out rfl HOB.out ⟨wa.heap.size, 0, none⟩ 2 2 rfl rfl (two_bytes rfl rfl (heap_alloc_new wa _)) (by omega) HLN.out (by simp; have := HBZA.out; omega) ?_; intro g2 cap2 w8 h2 h3 h4)
      have HO8 := Lib.hid h2
      have HXW := Lib.hid ((heap_alloc_old wa (.cells #[.int .u8 lo, .int .u8 hi] 5) (lt_of_block HXA.out)).trans HXA.out)
      have hq8 := (h4.g.block Q (lt_of_block HXW.out) (HOB.out.type HXW.out (by decide))).trans HXW.out
      have q2 := (cell_of_row w8 Q 2 _ _ _ hq8).trans rfl
      have HG8 : Hid (Gr w w8 v (.slice (some ⟨g2, 0, none⟩) (n3 + 2) cap2)) := Lib.hid (HGA.out.trans ((Gr.ofBelow (new_one wa _)).trans h4))
      have HB8 : Hid (Below B w0 w8) := Lib.hid ((HBA.out.trans ((new_one wa _).mono HBZA.out)).trans (HOB.out.gr h4 (by simp; have := HBZA.out; omega)))
      have hB8 : B ≤ w8.heap.size := by rw [← HW0.out]; exact HB8.out.size
      have HBZ8 := Lib.hid hB8
      have HL8 : Hid ((L3 ++ [lo, hi]).length + 10 ≤ 100000000) := Lib.hid (by rw [List.length_append, HN3.out]; have := HLL.out; have := HL2.out; simp; omega)
      have HD64 : Hid (d < 18446744073709551616) := Lib.hid (by have := HOK.out.2.2.2; simp only [] at this; omega)
      have HN8 := Lib.hid (appnum1 B w8.heap.size (.slice (some ⟨g2, 0, none⟩) (n3 + 2) cap2) (L3 ++ [lo, hi]) d d rfl (w8.alloc (.cells #[.int .u64 d] 24)) (HO8.out.below (new_one w8 _)) (heap_alloc_new w8 _) HD64.out HL8.out (by simp; omega))
      have HOZ := Lib.hid (HO8.out.below (new_one w8 (.cells #[.int .u64 d] 24)))
      clear h2 h3 h4 hq8 q0 q1 hB8
      go_wp2_with (go_at_call 23; (with_reducible refine HN8.out.mono ?_); rintro e w9 ⟨v9, rfl, ho9, hg9⟩; have HO9 := ho9; have HG9 := hg9)
      exact ⟨⟨k + 1, rfl, hlt, by rw [HTK.out, HAR.out, ← List.append_assoc]; exact HO9, Lib.hid (HG8.out.trans ((Gr.ofBelow (new_one w8 _)).trans HG9.out)), Lib.hid ((HB8.out.trans ((new_one w8 _).mono HBZ8.out)).trans (HOZ.out.gr HG9.out (by simp; have := HBZ8.out; omega)))⟩, by simp only [intOf]; omega⟩
    · obtain rfl : k = arcs.length := by omega
      have hd : decide ((arcs.length : Int) < arcs.length) = false := by simp
      have HT := Lib.hid (List.take_length (l := arcs))
      rw [HT.out] at HO
      go_wp2_with fail
      go_ret
      exact ⟨_, rfl, by rw [← List.append_assoc, HLE.out]; exact HO, HG⟩
end Go.Proofs.Ytmhjabodhgacnaa
