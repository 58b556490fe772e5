/- Contract: unseal. -/
import Derived.Test.YtmhjabodhgacnaaPJ
import Derived.ChangeKeysEq
import Derived.Laws.CopyOwn
set_option maxRecDepth 100000
namespace Go.Proofs.Ytmhjabodhgacnaa
open Go.RowKit

theorem Goes.more {P : Program} {md : Region.Mode} {ops : Array Oper} {Q : Exit → Act → World → Prop} {S S2 : World → Prop} {z : Nat} (h : ∀ w, S2 w → S w) : ∀ {n : Nat} {l : Array Bool} {a : Act} {w : World}, Goes P md ops Q S2 z n l a w → Goes P md ops Q S z n l a w
  | 0, _, _, _, g => g
  | _ + 1, _, _, _, g => ⟨g.1, fun j hj => wpOp_mono (fun _ _ k => ⟨fun hn => h _ (k.1 hn), Goes.more h k.2⟩) (g.2 j hj)⟩
theorem cellsU8 : Try.prog.cellsOf 5 = 1 := by kernel_rfl
theorem infoU8' : ∃ i, Try.prog.info? 5 = some i := by
  have : (Try.prog.info? 5).isSome = true := by kernel_rfl
  exact Option.isSome_iff_exists.1 this
theorem part4_0 (a b c d : Int) (w : World) : (part 5 #[.int .u8 a, .int .u8 b, .int .u8 c, .int .u8 d] (0 * 1)).run Try.prog w = .ok (.int .u8 a) w := by kernel_rfl
theorem part4_1 (a b c d : Int) (w : World) : (part 5 #[.int .u8 a, .int .u8 b, .int .u8 c, .int .u8 d] (1 * 1)).run Try.prog w = .ok (.int .u8 b) w := by kernel_rfl
theorem part4_2 (a b c d : Int) (w : World) : (part 5 #[.int .u8 a, .int .u8 b, .int .u8 c, .int .u8 d] (2 * 1)).run Try.prog w = .ok (.int .u8 c) w := by kernel_rfl
theorem part4_3 (a b c d : Int) (w : World) : (part 5 #[.int .u8 a, .int .u8 b, .int .u8 c, .int .u8 d] (3 * 1)).run Try.prog w = .ok (.int .u8 d) w := by kernel_rfl
theorem eq_four (a b c d a' b' c' d' : Int) (w : World) : (Op.equalIn 10000 56 (.agg #[.int .u8 a, .int .u8 b, .int .u8 c, .int .u8 d]) (.agg #[.int .u8 a', .int .u8 b', .int .u8 c', .int .u8 d'])).run Try.prog w = .ok (a == a' && (b == b' && (c == c' && d == d'))) w := by
  obtain ⟨i, hi⟩ := infoU8'
  rw [show (10000 : Nat) = 9999 + 1 from rfl, run_equalIn_array w 9999 _ _ Try.underlying56 hi, cellsU8, show List.range 4 = [0, 1, 2, 3] from rfl]
  simp only [Op.eqItems, Sem.run_bind, part4_0, Result.andThen_ok, run_equalIn_int w 9998 _ _ _ _ _ Try.underlying5]
  cases a == a'
  · simp
  · simp only [Bool.not_true, Bool.false_eq_true, if_false, Sem.run_bind, part4_1, Result.andThen_ok, run_equalIn_int w 9998 _ _ _ _ _ Try.underlying5]
    cases b == b'
    · simp
    · simp only [Bool.not_true, Bool.false_eq_true, if_false, Sem.run_bind, part4_2, Result.andThen_ok, run_equalIn_int w 9998 _ _ _ _ _ Try.underlying5]
      cases c == c'
      · simp
      · simp only [Bool.not_true, Bool.false_eq_true, if_false, Sem.run_bind, part4_3, Result.andThen_ok, run_equalIn_int w 9998 _ _ _ _ _ Try.underlying5]
        cases d == d' <;> simp
theorem four_form {l : List Nat} (h : l.length = 4) : ∃ a b c d, l = [a, b, c, d] := by
  match l, h with
  | [a, b, c, d], _ => exact ⟨a, b, c, d, rfl⟩
theorem eq_fours {l r : List Nat} (hl : l.length = 4) (hr : r.length = 4) (w : World) : (Op.equalIn 10000 56 (.agg (u8s l).toArray) (.agg (u8s r).toArray)).run Try.prog w = .ok (decide (r = l)) w := by
  obtain ⟨a, b, c, d, rfl⟩ := four_form hl
  obtain ⟨a', b', c', d', rfl⟩ := four_form hr
  rw [show (u8s [a, b, c, d]).toArray = #[.int .u8 a, .int .u8 b, .int .u8 c, .int .u8 d] from rfl, show (u8s [a', b', c', d']).toArray = #[.int .u8 a', .int .u8 b', .int .u8 c', .int .u8 d'] from rfl, eq_four]
  congr 1
  rw [Bool.eq_iff_iff]
  simp only [Bool.and_eq_true, beq_iff_eq, decide_eq_true_eq, List.cons.injEq, and_true]
  omega
theorem splice_four (l : List Nat) (h : l.length = 4) : splice (u8s [0, 0, 0, 0]) 0 (u8s l) = u8s l := by
  obtain ⟨a, b, c, d, rfl⟩ := four_form h
  rfl
theorem sealed_at {l : List Nat} {k : Nat} (h : l.length = k + 4) : sealedB l = decide (fourB (sumB (l.take k)) = l.drop k) := by
  unfold sealedB
  rw [show l.length - 4 = k from by omega, show decide (4 ≤ l.length) = true from decide_eq_true (by omega), Bool.true_and]
theorem exec_load_four {w : World} {N : Nat} {l : List Nat} (h : w.heap[N]? = some (.cells (u8s l).toArray 56 (0, 0))) (hl : l.length = 4) {a : Act} (x : Operand) {op : Oper} (ho : op.op = .load 56 x) (hx : a.eval x = .pointer (some ⟨N, 0, none⟩)) :
    (execOp a.eval op).run Try.prog w = .ok (.value (.agg (u8s l).toArray)) w := by
  obtain ⟨p, q, r, s, rfl⟩ := four_form hl
  have k0 : w.cell? ⟨N, 0, none⟩ = some (.int .u8 p) := (cell_of_row w N 0 _ _ _ h).trans rfl
  have k1 : w.cell? ⟨N, 1, none⟩ = some (.int .u8 q) := (cell_of_row w N 1 _ _ _ h).trans rfl
  have k2 : w.cell? ⟨N, 2, none⟩ = some (.int .u8 r) := (cell_of_row w N 2 _ _ _ h).trans rfl
  have k3 : w.cell? ⟨N, 3, none⟩ = some (.int .u8 s) := (cell_of_row w N 3 _ _ _ h).trans rfl
  unfold execOp
  simp only [ho, hx, Instr.loadAt, Instr.sureAddr, Sem.run_bind, Sem.run_pure, Result.andThen_ok]
  simp [go_sem, k0, k1, k2, k3]
  rfl
set_option linter.unusedSimpArgs false in
set_option maxHeartbeats 8000000 in
theorem unseal_any (v : Value) (l : List Nat) (w : World) (R : Nat) (h : BytesAt w v l) (hl : l.length < 9223372036854775808) (hb : ∀ x ∈ l, x < 256) (hv : LowB R v) :
    Calls Try.prog 27 #[v] w fun e w' => ∃ z, e = .returned (.tuple #[z, .bool (sealedB l)]) ∧ Hid (BytesAt w' z (l.take (l.length - 4))) ∧ Hid (LowB R z) ∧ Hid (Below w.heap.size w w') := by
  have mixed : Try.prog.follows .mixedOrders = true := by kernel_rfl
  have HH := Lib.hid h
  have HV := Lib.hid hv
  have HBB := Lib.hid hb
  obtain ⟨a, c, rfl, hc⟩ := h.len
  clear h hv hb
  by_cases h4 : 4 ≤ l.length
  · obtain ⟨k, hk⟩ : ∃ k, l.length = k + 4 := ⟨l.length - 4, by omega⟩
    have HSE := Lib.hid (sealed_at hk)
    have HKK := Lib.hid (show l.length - 4 = k by omega)
    rw [HSE.out, HKK.out]
    have hkl : k ≤ l.length := by omega
    have hkc : k ≤ c := by omega
    have HS1 := Lib.hid (fun W => slice_from (w := W) (a := a) (n := l.length) (c := c) (k := k) hkl)
    have HS2 := Lib.hid (fun W => slice_upto (w := W) (a := a) (n := l.length) (c := c) (k := k) hkc)
    have HD1 := Lib.hid (HH.out.drop (k := k) hkl)
    have HD2 := Lib.hid (HH.out.take (k := k) hkl)
    have HL2 := Lib.hid (low_sliced (l := 0) (h := k) (m := c) (s := 1) HV.out)
    obtain ⟨ua, un, uc, hu⟩ : ∃ ua un uc, sliced a k l.length c 1 = .slice ua un uc := ⟨_, _, _, rfl⟩
    have hun : un = 4 := by
      unfold sliced at hu
      injection hu with _ h2 _
      omega
    subst hun
    obtain ⟨ta, tn, tc, ht⟩ : ∃ ta tn tc, sliced a 0 k c 1 = .slice ta tn tc := ⟨_, _, _, rfl⟩
    have HLD : Hid ((l.drop k).length = 4) := Lib.hid (by rw [List.length_drop]; omega)
    have HTB := Lib.hid (fun x hx => HBB.out x (List.mem_of_mem_take (i := k) hx))
    have HTL : Hid ((l.take k).length < 9223372036854775808) := Lib.hid (by rw [List.length_take]; omega)
    rw [hu] at HS1 HD1
    rw [ht] at HS2 HD2 HL2
    clear hu ht HSE HBB hc
    obtain ⟨D, hD⟩ : ∃ D, l.drop k = D := ⟨_, rfl⟩
    obtain ⟨T, hT⟩ : ∃ T, l.take k = T := ⟨_, rfl⟩
    rw [hD] at HD1 HLD ⊢
    rw [hT] at HD2 HTB HTL ⊢
    clear hD hT
    have HQ := Lib.hid (fun W => eq_fours (l := D) (r := fourB (sumB T)) HLD.out rfl W)
    obtain ⟨z, hz⟩ : ∃ z, decide (fourB (sumB T) = D) = z := ⟨_, rfl⟩
    rw [hz] at HQ ⊢
    clear hz
    obtain ⟨a0, ha0, hca⟩ : ∃ a0, ua = some a0 ∧ ∀ j u, (u8s D)[j]? = some u → w.cell? (a0.add j) = some u := by
      obtain ⟨b, o, e1, _⟩ := HD1.out.at (i := 0) (by rw [HLD.out]; omega)
      refine ⟨⟨b, o, none⟩, e1, fun j u hj => ?_⟩
      have hj2 : j < D.length := by
        have := (List.getElem?_eq_some_iff.1 hj).1
        rwa [u8s_len] at this
      obtain ⟨b2, o2, e2, h2⟩ := HD1.out.at hj2
      rw [e1] at e2
      cases e2
      rw [u8s_at hj2] at hj
      rw [add_none, h2]; exact hj
    subst ha0
    have HCA := Lib.hid hca
    clear hca
    obtain ⟨N, hN⟩ : ∃ N, w.heap.size = N := ⟨_, rfl⟩
    obtain ⟨w1, hw1⟩ : ∃ w1, w.alloc (.cells #[.int .u8 0, .int .u8 0, .int .u8 0, .int .u8 0] 56) = w1 := ⟨_, rfl⟩
    have HN := Lib.hid hN
    have HB1 : Hid (Below N w w1) := Lib.hid (by rw [← hw1, ← hN]; exact new_one w _)
    have HF1 : Hid (w1.heap[N]? = some (.cells (u8s [0, 0, 0, 0]).toArray 56 (0, 0))) := Lib.hid (by rw [← hw1, ← hN]; exact heap_alloc_new w _)
    have hln : (l.length : Int) = (k : Int) + 4 := by omega
    have HLN := Lib.hid hln
    have hwk : IntKind.i64.wrap ((l.length : Int) - 4) = (k : Int) := by rw [IntKind.wrap_i64]; omega
    have d0 : decide ((k : Int) < 0) = false := decide_eq_false (by omega)
    have hki : (0 : Int) ≤ k := by omega
    rw [hN]
    clear hln hk hl hkl hkc HKK
    go_enter Try.func27, Try.ntmps27
    go_upto_region 5 with fail
    have HWC : Hid (Below N w1 w1) := Lib.hid (Below.refl _ _)
    refine region_goes 5 5 rfl (fun _ => True) mixed trivial (fun hHeld => ?_)
    refine goes_take0 (i := 0) (v := .slice (some ⟨N, 0, none⟩) 4 4) rfl (by kernel_rfl) (by kernel_rfl) (by kernel_rfl) rfl (fun _ _ _ h => h) (Or.inl ⟨by rfl, ?gxs1⟩) (by assumption) ?gqs1
    case gxs1 => (intro W9 _; first | (go_simp; done) | (go_simp; with_reducible rfl))
    simp only [Act.put, List.getElem_toArray, List.getElem_cons_succ, List.getElem_cons_zero, List.setIfInBounds_toArray, List.set_cons_zero, List.set_cons_succ]
    refine goes_take0 (i := 1) (v := ?gws2) rfl (by kernel_rfl) (by kernel_rfl) (by kernel_rfl) rfl (fun _ _ _ h => h) (Or.inl ⟨by rfl, ?gxs2⟩) (by assumption) ?gqs2
    case gxs2 => (intro W9 _; first | (go_simp; done) | (go_simp; with_reducible rfl))
    simp only [Act.put, List.getElem_toArray, List.getElem_cons_succ, List.getElem_cons_zero, List.setIfInBounds_toArray, List.set_cons_zero, List.set_cons_succ]
    refine goes_take0 (i := 2) (v := ?gws3) rfl (by kernel_rfl) (by kernel_rfl) (by kernel_rfl) rfl (fun _ _ _ h => h) (Or.inl ⟨by rfl, ?gxs3⟩) (by assumption) ?gqs3
    case gxs3 => (intro W9 _; first | (go_simp; done) | (go_simp; with_reducible rfl))
    simp only [Act.put, List.getElem_toArray, List.getElem_cons_succ, List.getElem_cons_zero, List.setIfInBounds_toArray, List.set_cons_zero, List.set_cons_succ]
    refine goes_take0 (i := 3) (v := .slice (some a0) 4 uc) rfl (by kernel_rfl) (by kernel_rfl) (by kernel_rfl) rfl (fun _ _ _ h => h) (Or.inl ⟨by rfl, ?gxs4⟩) (by assumption) ?gqs4
    case gxs4 => (intro W9 _; have hs := HS1.out W9; first | (go_simp; done) | (go_simp; with_reducible rfl))
    simp only [Act.put, List.getElem_toArray, List.getElem_cons_succ, List.getElem_cons_zero, List.setIfInBounds_toArray, List.set_cons_zero, List.set_cons_succ]
    refine goes_one (i := 4) (by kernel_rfl) rfl (fun K9 hK9 => ?_)
    refine step_copy_splice rfl (.tmp 11) (.tmp 14) 25 25 rfl 5 Try.underlying25 (by kernel_rfl) (some ⟨N, 0, none⟩) (some a0) 4 4 4 uc rfl rfl N 0 (u8s [0, 0, 0, 0]) 56 HF1.out (u8s D) (by rw [u8s_len, HLD.out]; rfl) (fun _ => ⟨rfl, a0, rfl, fun j u hj => cell_below (show Below w.heap.size w w1.drew from by rw [HN.out]; exact HB1.out.trans (Below.refl _ _).drew) (HCA.out j u hj)⟩) (by rw [u8s_len, HLD.out]; exact Nat.le_refl _) (u8s_one D) N w (HB1.out.trans (Below.refl _ _).drew) (Nat.le_refl N) ?_
    intro w3 hg3 hb3
    rw [splice_four D HLD.out] at hg3
    refine hK9.out _ _ (fun _ => trivial) (fun _ => ?_)
    refine goes_done (by kernel_rfl) ?_ _
    clear hK9 K9 hHeld
    simp only [Act.put, List.getElem_toArray, List.getElem_cons_succ, List.getElem_cons_zero, List.setIfInBounds_toArray, List.set_cons_zero, List.set_cons_succ]
    go_upto_region 6 with fail
    have HG3 := hg3
    have HB3 : Hid (Below N w w3) := Lib.hid hb3
    have HSL := Lib.hid (fun W (hW : Below w3.heap.size w3 W) => seal_any (.slice ta tn tc) T W (HD2.out.below (show Below w.heap.size w W from by rw [HN.out]; exact hb3.trans (hW.mono (by rw [← HN.out]; exact hb3.size)))) HTL.out HTB.out)
    clear hg3 hb3
    refine region_goes 11 11 rfl (fun W => Below w3.heap.size w3 W) mixed (Below.refl _ _).drew (fun hHeld => ?_)
    refine goes_take0 (i := 0) (v := ?gwt1) rfl (by kernel_rfl) (by kernel_rfl) (by kernel_rfl) rfl (fun _ _ _ h => h) (Or.inl ⟨by rfl, ?gxt1⟩) (by assumption) ?gqt1
    case gxt1 => (intro W9 _; first | (go_simp; done) | (go_simp; with_reducible rfl))
    simp only [Act.put, List.getElem_toArray, List.getElem_cons_succ, List.getElem_cons_zero, List.setIfInBounds_toArray, List.set_cons_zero, List.set_cons_succ]
    refine goes_take0 (i := 1) (v := ?gwt2) rfl (by kernel_rfl) (by kernel_rfl) (by kernel_rfl) rfl (fun _ _ _ h => h) (Or.inl ⟨by rfl, ?gxt2⟩) (by assumption) ?gqt2
    case gxt2 => (intro W9 _; first | (go_simp; done) | (go_simp; with_reducible rfl))
    simp only [Act.put, List.getElem_toArray, List.getElem_cons_succ, List.getElem_cons_zero, List.setIfInBounds_toArray, List.set_cons_zero, List.set_cons_succ]
    refine goes_take0 (i := 2) (v := .slice ta tn tc) rfl (by kernel_rfl) (by kernel_rfl) (by kernel_rfl) rfl (fun _ _ _ h => h) (Or.inl ⟨by rfl, ?gxt3⟩) (by assumption) ?gqt3
    case gxt3 => (intro W9 _; have hs := HS2.out W9; first | (go_simp; done) | (go_simp; with_reducible rfl))
    simp only [Act.put, List.getElem_toArray, List.getElem_cons_succ, List.getElem_cons_zero, List.setIfInBounds_toArray, List.set_cons_zero, List.set_cons_succ]
    refine goes_take0 (i := 3) (v := .agg (u8s D).toArray) rfl (by kernel_rfl) (by kernel_rfl) (by kernel_rfl) rfl (fun _ _ _ h => h) (Or.inl ⟨by rfl, ?gxt4⟩) (by assumption) ?gqt4
    case gxt4 => (intro W9 hW9; exact exec_load_four ((hW9.block N (lt_of_block HG3.out)).trans HG3.out) HLD.out (.tmp 4) rfl rfl)
    simp only [Act.put, List.getElem_toArray, List.getElem_cons_succ, List.getElem_cons_zero, List.setIfInBounds_toArray, List.set_cons_zero, List.set_cons_succ]
    refine goes_take0 (i := 4) (v := ?gwt5) rfl (by kernel_rfl) (by kernel_rfl) (by kernel_rfl) rfl (fun _ _ _ h => h) (Or.inl ⟨by rfl, ?gxt5⟩) (by assumption) ?gqt5
    case gxt5 => (intro W9 _; first | (go_simp; done) | (go_simp; with_reducible rfl))
    simp only [Act.put, List.getElem_toArray, List.getElem_cons_succ, List.getElem_cons_zero, List.setIfInBounds_toArray, List.set_cons_zero, List.set_cons_succ]
    refine goes_take0 (i := 5) (v := ?gwt6) rfl (by kernel_rfl) (by kernel_rfl) (by kernel_rfl) rfl (fun _ _ _ h => h) (Or.inl ⟨by rfl, ?gxt6⟩) (by assumption) ?gqt6
    case gxt6 => (intro W9 _; first | (go_simp; done) | (go_simp; with_reducible rfl))
    simp only [Act.put, List.getElem_toArray, List.getElem_cons_succ, List.getElem_cons_zero, List.setIfInBounds_toArray, List.set_cons_zero, List.set_cons_succ]
    refine goes_take0 (i := 6) (v := .slice ta tn tc) rfl (by kernel_rfl) (by kernel_rfl) (by kernel_rfl) rfl (fun _ _ _ h => h) (Or.inl ⟨by rfl, ?gxt7⟩) (by assumption) ?gqt7
    case gxt7 => (intro W9 _; have hs := HS2.out W9; first | (go_simp; done) | (go_simp; with_reducible rfl))
    simp only [Act.put, List.getElem_toArray, List.getElem_cons_succ, List.getElem_cons_zero, List.setIfInBounds_toArray, List.set_cons_zero, List.set_cons_succ]
    refine goes_one (i := 7) (by kernel_rfl) rfl (fun K9 hK9 => ?_)
    go_simp
    with_reducible refine (HSL.out _ hHeld).mono ?_
    rintro e w5 ⟨rfl, hb5⟩
    have hAnw5 := hHeld.trans ((hb5).mono hHeld.size)
    refine hK9.out _ _ (fun _ => hAnw5) (fun _ => ?_)
    clear hK9 K9 hHeld
    refine Goes.more (S2 := fun W => Below w5.heap.size w5 W) (fun W h => hAnw5.trans (h.mono hAnw5.size)) ?_
    have hHeld := Below.refl w5.heap.size w5
    refine goes_take0 (i := 8) (v := .bool z) rfl (by kernel_rfl) (by kernel_rfl) (by kernel_rfl) rfl (fun _ _ _ h => h) (Or.inl ⟨by rfl, ?gxt8⟩) (by assumption) ?gqt8
    case gxt8 => (intro W9 _; have hq := HQ.out W9; first | (go_simp; done) | (go_simp; with_reducible rfl))
    simp only [Act.put, List.getElem_toArray, List.getElem_cons_succ, List.getElem_cons_zero, List.setIfInBounds_toArray, List.set_cons_zero, List.set_cons_succ]
    refine goes_take0 (i := 9) (v := ?gwt9) rfl (by kernel_rfl) (by kernel_rfl) (by kernel_rfl) rfl (fun _ _ _ h => h) (Or.inl ⟨by rfl, ?gxt9⟩) (by assumption) ?gqt9
    case gxt9 => (intro W9 _; first | (go_simp; done) | (go_simp; with_reducible rfl))
    simp only [Act.put, List.getElem_toArray, List.getElem_cons_succ, List.getElem_cons_zero, List.setIfInBounds_toArray, List.set_cons_zero, List.set_cons_succ]
    refine goes_take0 (i := 10) (v := ?gwt10) rfl (by kernel_rfl) (by kernel_rfl) (by kernel_rfl) rfl (fun _ _ _ h => h) (Or.inl ⟨by rfl, ?gxt10⟩) (by assumption) ?gqt10
    case gxt10 => (intro W9 _; first | (go_simp; done) | (go_simp; with_reducible rfl))
    simp only [Act.put, List.getElem_toArray, List.getElem_cons_succ, List.getElem_cons_zero, List.setIfInBounds_toArray, List.set_cons_zero, List.set_cons_succ]
    refine goes_done (by kernel_rfl) ?_ _
    go_wp2
    go_ret2
    have hb35 : Below N w3 w5 := hAnw5.mono (by rw [← HN.out]; exact HB3.out.size)
    have hb05 : Below N w w5 := HB3.out.trans hb35
    exact ⟨_, rfl, Lib.hid (HD2.out.below (by rw [HN.out]; exact hb05)), HL2, Lib.hid hb05⟩
  · have hlen : l.length < 4 := by omega
    have HZ := Lib.hid (show sealedB l = false from by unfold sealedB; rw [decide_eq_false h4, Bool.false_and])
    have HT := Lib.hid (show l.take (l.length - 4) = [] from by rw [show l.length - 4 = 0 from by omega]; rfl)
    rw [HZ.out, HT.out]
    obtain ⟨k, hk⟩ : ∃ k : Int, (l.length : Int) - 4 = k := ⟨_, rfl⟩
    have hwk : IntKind.i64.wrap ((l.length : Int) - 4) = k := by rw [IntKind.wrap_i64]; omega
    have d0 : decide (k < 0) = true := decide_eq_true (by omega)
    have hk0 : k < 0 := by omega
    clear hk hlen h4 hl HT HZ
    go_enter Try.func27, Try.ntmps27
    go_wp2_with fail
    go_ret2
    exact ⟨_, rfl, Lib.hid (BytesAt.nil _), Lib.hid (low_nil R), Lib.hid (new_one w _)⟩
end Go.Proofs.Ytmhjabodhgacnaa
