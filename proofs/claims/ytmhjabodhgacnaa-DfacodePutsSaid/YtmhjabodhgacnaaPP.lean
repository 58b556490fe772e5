/- Contract: appendNumbers. -/
import Derived.Test.YtmhjabodhgacnaaPO
set_option maxRecDepth 100000
namespace Go.Proofs.Ytmhjabodhgacnaa
open Go.RowKit

/-- Numbers as values. -/
def u64s (l : List Nat) : List Value := l.map fun x : Nat => Value.int .u64 (x : Int)
theorem u64s_at {l : List Nat} {i : Nat} (h : i < l.length) : (u64s l)[i]? = some (.int .u64 (l[i] : Nat)) := by simp [u64s, h]
theorem one_byte {w : World} {b : Nat} {z : Int} {x : Nat} (hz : z = (x : Int)) (h : w.heap[b]? = some (.cells #[.int .u8 z] 5 (0, 0))) : ∀ j u, (u8s [x])[j]? = some u → w.cell? ((⟨b, 0, none⟩ : Addr).add j) = some u := by
  intro j u hj
  subst hz
  exact World.news_of_block h j u (by simpa [u8s] using hj)
set_option maxHeartbeats 4000000 in
theorem appnum_any (B b : Nat) (v : Value) (L ns : List Nat) (w : World) (h : OwnF w B v L) (hb : w.heap[b]? = some (.cells (u64s ns).toArray 24 (0, 0))) (hns : ∀ n ∈ ns, n < 18446744073709551616) (hlen : L.length + 10 * ns.length ≤ 100000000) (hB : B ≤ w.heap.size) :
    Calls Try.prog 23 #[v, .slice (some ⟨b, 0, none⟩) ns.length ns.length] w fun e w' => ∃ v', e = .returned v' ∧ Hid (OwnF w' B v' (L ++ ns.flatMap numB)) ∧ Hid (Gr w w' v v') := by
  have H := Lib.hid h
  have HBL := Lib.hid hb
  have HNS := Lib.hid hns
  clear h hb hns
  go_enter Try.func23, Try.ntmps23
  go_wp2_with fail
  go_loopw [0, 9] (fun u i wr => ∃ k : Nat, i = .int .i64 k ∧ k ≤ ns.length ∧ B ≤ wr.heap.size ∧ Hid (OwnF wr B u (L ++ (ns.take k).flatMap numB)) ∧ Hid (Gr w wr v u)) (fun _ i _ => ns.length - (intOf i).toNat)
  case atStart => exact ⟨0, rfl, Nat.zero_le _, hB, by rw [List.take_zero, List.flatMap_nil, List.append_nil]; exact H, Lib.hid (Gr.refl _ _)⟩
  case round =>
    obtain ⟨k, rfl, hk, hBr, HO, HG⟩ := hrel
    by_cases hlt : k < ns.length
    · have hd : decide ((k : Int) < ns.length) = true := decide_eq_true (by omega)
      have hki : (k : Int) < ns.length := by omega
      have c0 : wr.cell? ⟨b, k, none⟩ = some (.int .u64 (ns[k] : Nat)) := by
        refine HG.out.cell ?_ (H.out.type HBL.out (by decide))
        rw [cell_of_row w b k _ _ _ HBL.out, List.getElem?_toArray, u64s_at hlt]
      have HX := Lib.hid (HNS.out ns[k] (List.getElem_mem hlt))
      have HTK := Lib.hid (show L ++ (ns.take (k + 1)).flatMap numB = (L ++ (ns.take k).flatMap numB) ++ numB ns[k] from by rw [List.take_succ_eq_append_getElem hlt, List.flatMap_append, List.append_assoc]; simp)
      have hLL : (L ++ (ns.take k).flatMap numB).length ≤ L.length + 10 * k := by
        rw [List.length_append]
        have h1 := flat_le numB 10 (ns.take k) fun x hx => numB_ten (HNS.out x (List.mem_of_mem_take hx))
        rw [List.length_take] at h1
        omega
      generalize ns[k] = x at *
      generalize L ++ (ns.take k).flatMap numB = L1 at *
      go_wp2_with fail
      have HL1 := Lib.hid hLL
      have hk8 : L.length + 10 * k + 10 ≤ 100000000 := by omega
      have HK8 := Lib.hid hk8
      clear hLL hk8
      go_loopw [0, 6] (fun u z wq => ∃ (m : Nat) (P : List Nat), z = .int .u64 m ∧ Hid (m < 18446744073709551616) ∧ Hid (numB x = P ++ numB m) ∧ B ≤ wq.heap.size ∧ Hid (OwnF wq B u (L1 ++ P)) ∧ Hid (Gr wr wq u0 u)) (fun _ z _ => (intOf z).toNat)
      case atStart => exact ⟨x, [], rfl, HX, Lib.hid rfl, hBr, by rw [List.append_nil]; exact HO, Lib.hid (Gr.refl _ _)⟩
      case round =>
        obtain ⟨m, P, rfl, HM, HP, hBq, HOq, HGq⟩ := hrel
        have HPL : Hid ((L1 ++ P).length + 1 ≤ 100000000) := Lib.hid (by
          have h1 := congrArg List.length HP.out
          rw [List.length_append] at h1
          have h2 := numB_ten HX.out
          have h3 := numB_pos m
          rw [List.length_append]
          have := HL1.out
          have := HK8.out
          omega)
        obtain ⟨a3, c3, rfl⟩ := HOq.out.form
        obtain ⟨n3, hn3⟩ : ∃ n3, (L1 ++ P).length = n3 := ⟨_, rfl⟩
        have HN3 := Lib.hid hn3
        rw [hn3] at HPL HOq HGq ⊢
        clear hn3
        by_cases hge : 128 ≤ m
        · have d1 : decide ((m : Int) ≥ 128) = true := decide_eq_true (by omega)
          have d2 : decide ((128 : Int) ≤ m) = true := decide_eq_true (by omega)
          have hm64 := HM.out
          have HNB := Lib.hid (numB_ge (n := m) (by omega))
          have HMD := Lib.hid hge
          have HBY : Hid ((m : Int) % 128 + 128 = ((m % 128 + 128 : Nat) : Int)) := Lib.hid (by omega)
          have HOA := Lib.hid (HOq.out.below (new_one wr (.cells #[.int .u8 ((m : Int) % 128 + 128)] 5)))
          have HD : Hid (((m / 128 : Nat) : Int) = (m : Int) / 128) := Lib.hid (by omega)
          clear hge
          go_wp2_with (at_builtin; refine wpList_append_of rfl _ _ rfl B (.slice a3 n3 c3) (L1 ++ P) [m % 128 + 128] n3 HN3.out rfl HOA.out ⟨wr.heap.size, 0, none⟩ 1 1 rfl rfl (one_byte HBY.out (heap_alloc_new wr _)) Nat.one_pos HPL.out (by simp; omega) ?_; intro g2 cap2 w8 h2 h3 h4; have HO8 := Lib.hid h2; have HG8 := Lib.hid (HGq.out.trans ((Gr.ofBelow (new_one wr _)).trans h4)); have hs8 := h4.g.size; clear h2 h3 h4)
          exact ⟨⟨m / 128, P ++ [m % 128 + 128], by rw [HD.out], Lib.hid (by omega), Lib.hid (by rw [HP.out, HNB.out]; simp), by simp at hs8; omega, by rw [← List.append_assoc]; exact HO8, HG8⟩, by simp only [intOf]; have := HMD.out; omega⟩
        · have d1 : decide ((m : Int) ≥ 128) = false := decide_eq_false (by omega)
          have d2 : decide ((128 : Int) ≤ m) = false := decide_eq_false (by omega)
          have d3 : decide (128 ≤ m) = false := decide_eq_false hge
          have HNB := Lib.hid (numB_lt (n := m) (by omega))
          have hm8 : m < 128 := by omega
          have HBY : Hid ((m : Int) = ((m : Nat) : Int)) := Lib.hid rfl
          have HOA := Lib.hid (HOq.out.below (new_one wr (.cells #[.int .u8 (m : Int)] 5)))
          have HEND := Lib.hid (show (L1 ++ P) ++ [m] = L1 ++ numB x from by rw [HP.out, HNB.out, List.append_assoc])
          clear hge
          go_wp2_with (at_builtin; refine wpList_append_of rfl _ _ rfl B (.slice a3 n3 c3) (L1 ++ P) [m] n3 HN3.out rfl HOA.out ⟨wr.heap.size, 0, none⟩ 1 1 rfl rfl (one_byte HBY.out (heap_alloc_new wr _)) Nat.one_pos HPL.out (by simp; omega) ?_; intro g2 cap2 w8 h2 h3 h4; have HO8 := Lib.hid h2; have HG8 := Lib.hid (HG.out.trans (HGq.out.trans ((Gr.ofBelow (new_one wr _)).trans h4))); have hs8 := h4.g.size; clear h2 h3 h4)
          exact ⟨⟨k + 1, rfl, hlt, by simp at hs8; omega, by rw [HTK.out, ← HEND.out]; exact HO8, HG8⟩, by simp only [intOf]; omega⟩
    · obtain rfl : k = ns.length := by omega
      have hd : decide ((ns.length : Int) < ns.length) = false := by simp
      have HT := Lib.hid (List.take_length (l := ns))
      rw [HT.out] at HO
      go_wp2_with fail
      go_ret
      exact ⟨_, rfl, HO, HG⟩
theorem num_block {w : World} (ns : List Nat) : (w.alloc (.cells (u64s ns).toArray 24)).heap[w.heap.size]? = some (.cells (u64s ns).toArray 24 (0, 0)) := heap_alloc_new w _
set_option maxHeartbeats 4000000 in
theorem number11_any (n : Nat) (w : World) (hn : n < 18446744073709551616) :
    Calls Try.prog 13 #[.int .u64 n] w fun e w' => ∃ v, e = .returned v ∧ Hid (OwnF w' w.heap.size v (numB n)) ∧ Hid (Below w.heap.size w w') := by
  have HA : Hid (Calls Try.prog 23 #[.slice none 0 0, .slice (some ⟨w.heap.size, 0, none⟩) 1 1] (w.alloc (.cells #[.int .u64 n] 24)) fun e w' => ∃ v', e = .returned v' ∧ Hid (OwnF w' w.heap.size v' (numB n)) ∧ Hid (Gr (w.alloc (.cells #[.int .u64 n] 24)) w' (.slice none 0 0) v')) := Lib.hid (by
    have h := appnum_any w.heap.size w.heap.size (.slice none 0 0) [] [n] (w.alloc (.cells #[.int .u64 n] 24)) (OwnF.nil _ _) (num_block [n]) (by simpa using hn) (by simp) (by simp)
    rw [show ([] : List Nat) ++ [n].flatMap numB = numB n by simp] at h
    exact h)
  clear hn
  go_enter Try.func13, Try.ntmps13
  go_wp2_with (go_at_call 23; (with_reducible refine HA.out.mono ?_); rintro e w5 ⟨v5, rfl, ho5, hg5⟩)
  go_ret
  exact ⟨_, rfl, ho5, Lib.hid ((new_one w _).trans (hg5.out.below (by simp) (fun k hk => by cases hk)))⟩
end Go.Proofs.Ytmhjabodhgacnaa
