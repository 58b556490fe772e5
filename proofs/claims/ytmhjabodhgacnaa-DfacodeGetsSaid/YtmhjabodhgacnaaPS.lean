/- Contract: the reference's Number. -/
import Derived.Test.YtmhjabodhgacnaaPK
set_option maxRecDepth 100000
namespace Go.Proofs.Ytmhjabodhgacnaa
open Go.RowKit

/-- Two that are ready, in either order. -/
theorem goes_two {P : Program} {ops : Array Oper} {Q : Exit → Act → World → Prop} {md : Region.Mode} {S : World → Prop} {z n i j : Nat} {l : Array Bool} {a : Act} {w : World} {o o' : Oper} (hr : Region.ready md ops l = [i, j]) (ho : ops[i]? = some o) (ho' : ops[j]? = some o')
    (h : ∀ K' : Act → World → Prop, Shut (∀ a w, (i ≠ z → S w) → ((i ≠ z → S w) → Goes P md ops Q S z n (l.setIfInBounds i true) a w) → K' a w) → if Region.wanted o (yielded ops a.tmps) = true then Oper.wp P o a w K' Q else K' (a.put o.dst undef) w)
    (h' : ∀ K' : Act → World → Prop, Shut (∀ a w, (j ≠ z → S w) → ((j ≠ z → S w) → Goes P md ops Q S z n (l.setIfInBounds j true) a w) → K' a w) → if Region.wanted o' (yielded ops a.tmps) = true then Oper.wp P o' a w K' Q else K' (a.put o'.dst undef) w) : Goes P md ops Q S z (n + 1) l a w := by
  refine ⟨fun h0 => (by rw [hr] at h0; cases h0), fun k hk => ?_⟩
  rw [hr, List.mem_cons, List.mem_singleton] at hk
  rcases hk with rfl | rfl
  · exact wpOp_step ho fun K' hK => h K' fun a w h1 h2 => hK a w ⟨h1, h2 h1⟩
  · exact wpOp_step ho' fun K' hK => h' K' fun a w h1 h2 => hK a w ⟨h1, h2 h1⟩
theorem wrap_u8 (n : Int) : IntKind.u8.wrap n = n % 256 := by simp [IntKind.wrap, IntKind.bits, IntKind.signed]
theorem one_at {w : World} {b : Nat} {z : Int} {x : Nat} (hz : z = (x : Int)) (h : w.heap[b]? = some (.cells #[.int .u8 z] 5 (0, 0))) : BytesAt w (.slice (some ⟨b, 0, none⟩) 1 1) [x] := by
  subst hz
  refine ⟨_, 1, rfl, Nat.le_refl _, fun i hi => ⟨b, 0, rfl, ?_⟩⟩
  obtain rfl : i = 0 := by simpa using hi
  exact (cell_of_row _ _ 0 _ _ _ h).trans rfl
set_option linter.unusedSimpArgs false in
set_option maxHeartbeats 8000000 in
theorem rnumber_any : ∀ (n : Nat), n < 18446744073709551616 → ∀ w : World,
    Calls Try.prog 14 #[.int .u64 n] w fun e w' => e = .returned (.string (strOf (numB n))) ∧ Hid (Below w.heap.size w w') := by
  intro n
  induction n using Nat.strongRecOn with
  | _ n ih =>
    intro hn w
    have mixed : Try.prog.follows .mixedOrders = true := by kernel_rfl
    by_cases hlt : n < 128
    · have d1 : decide ((n : Int) < 128) = true := decide_eq_true (by omega)
      have HNB := Lib.hid (numB_lt hlt)
      have hcv := conv_bytes (one_at (w := w.alloc (.cells #[.int .u8 (n : Int)] 5)) (x := n) rfl (heap_alloc_new w _))
      clear ih
      go_enter Try.func14, Try.ntmps14
      go_wp2_with fail
      go_ret
      exact ⟨by rw [HNB.out]; rfl, Lib.hid (new_one w _)⟩
    · have d1 : decide ((n : Int) < 128) = false := decide_eq_false (by omega)
      have d3 : decide (n < 128) = false := decide_eq_false hlt
      have HNB := Lib.hid (numB_ge hlt)
      have HIH : Hid (∀ W, Calls Try.prog 14 #[.int .u64 ((n : Int) / 128)] W fun e w' => e = .returned (.string (strOf (numB (n / 128)))) ∧ Hid (Below W.heap.size W w')) := Lib.hid (by
        have h := ih (n / 128) (by omega) (by omega)
        rw [Int.natCast_ediv] at h
        exact h)
      have HBY : Hid ((n : Int) % 128 + 128 = ((n % 128 + 128 : Nat) : Int)) := Lib.hid (by omega)
      have HSZ : Hid ((strOf (numB (n / 128))).size ≤ 10) := Lib.hid (by rw [strOf_size]; exact numB_ten (by omega))
      have HS1 : Hid ((strOf [n % 128 + 128]).size = 1) := Lib.hid (by rw [strOf_size]; rfl)
      have HE1 : Hid ((n : Int).tmod 128 = (n : Int) % 128) := Lib.hid (Int.tmod_eq_emod_of_nonneg (by omega))
      have HE2 : Hid (IntKind.u64.wrap ((n : Int) % 128 + 128) = (n : Int) % 128 + 128) := Lib.hid (by rw [IntKind.wrap_u64]; omega)
      have HE3 : Hid (IntKind.u8.wrap ((n : Int) % 128 + 128) = (n : Int) % 128 + 128) := Lib.hid (by rw [wrap_u8]; omega)
      have HE4 : Hid (IntKind.u64.wrap ((n : Int) / 128) = (n : Int) / 128) := Lib.hid (by rw [IntKind.wrap_u64]; omega)
      have HST := Lib.hid (show strOf (numB n) = strOf [n % 128 + 128] ++ strOf (numB (n / 128)) from by rw [HNB.out, ← strOf_append]; rfl)
      rw [HST.out]
      obtain ⟨s2, hs2⟩ : ∃ s2, strOf (numB (n / 128)) = s2 := ⟨_, rfl⟩
      rw [hs2] at HIH HSZ ⊢
      obtain ⟨s1, hs1⟩ : ∃ s1, strOf [n % 128 + 128] = s1 := ⟨_, rfl⟩
      have HS1E := Lib.hid hs1
      rw [hs1] at HS1 ⊢
      clear ih hlt hs2 hs1 HST HNB hn
      go_enter Try.func14, Try.ntmps14
      go_upto_region 3 with fail
      have hHB := Below.refl w.heap.size w
      refine region_goes 11 11 rfl (fun W => Below w.heap.size w W) mixed (Below.refl _ _).drew (fun hHeld => ?_)
      refine goes_take0 (i := 0) (v := ?gwn1) rfl (by kernel_rfl) (by kernel_rfl) (by kernel_rfl) rfl (fun _ _ _ h => h) (Or.inl ⟨by rfl, ?gxn1⟩) (by assumption) ?gqn1
      case gxn1 => (intro W9 _; first | (go_simp; done) | (go_simp; with_reducible rfl))
      simp only [Act.put, List.getElem_toArray, List.getElem_cons_succ, List.getElem_cons_zero, List.setIfInBounds_toArray, List.set_cons_zero, List.set_cons_succ]
      refine goes_take0 (i := 1) (v := .int .u64 ((n : Int) % 128)) rfl (by kernel_rfl) (by kernel_rfl) (by kernel_rfl) rfl (fun _ _ _ h => h) (Or.inl ⟨by rfl, ?gxn2⟩) (by assumption) ?gqn2
      case gxn2 => (intro W9 _; have e1 := HE1.out; have e2 := HE2.out; have e3 := HE3.out; have e4 := HE4.out; first | (go_simp; done) | (go_simp; with_reducible rfl))
      simp only [Act.put, List.getElem_toArray, List.getElem_cons_succ, List.getElem_cons_zero, List.setIfInBounds_toArray, List.set_cons_zero, List.set_cons_succ]
      refine goes_take0 (i := 2) (v := .int .u64 ((n : Int) % 128 + 128)) rfl (by kernel_rfl) (by kernel_rfl) (by kernel_rfl) rfl (fun _ _ _ h => h) (Or.inl ⟨by rfl, ?gxn3⟩) (by assumption) ?gqn3
      case gxn3 => (intro W9 _; have e1 := HE1.out; have e2 := HE2.out; have e3 := HE3.out; have e4 := HE4.out; first | (go_simp; done) | (go_simp; with_reducible rfl))
      simp only [Act.put, List.getElem_toArray, List.getElem_cons_succ, List.getElem_cons_zero, List.setIfInBounds_toArray, List.set_cons_zero, List.set_cons_succ]
      refine goes_take0 (i := 3) (v := .int .u8 ((n : Int) % 128 + 128)) rfl (by kernel_rfl) (by kernel_rfl) (by kernel_rfl) rfl (fun _ _ _ h => h) (Or.inl ⟨by rfl, ?gxn4⟩) (by assumption) ?gqn4
      case gxn4 => (intro W9 _; have e1 := HE1.out; have e2 := HE2.out; have e3 := HE3.out; have e4 := HE4.out; first | (go_simp; done) | (go_simp; with_reducible rfl))
      simp only [Act.put, List.getElem_toArray, List.getElem_cons_succ, List.getElem_cons_zero, List.setIfInBounds_toArray, List.set_cons_zero, List.set_cons_succ]
      refine goes_take0 (i := 6) (v := ?gwn5) rfl (by kernel_rfl) (by kernel_rfl) (by kernel_rfl) rfl (fun _ _ _ h => h) (Or.inl ⟨by rfl, ?gxn5⟩) (by assumption) ?gqn5
      case gxn5 => (intro W9 _; first | (go_simp; done) | (go_simp; with_reducible rfl))
      simp only [Act.put, List.getElem_toArray, List.getElem_cons_succ, List.getElem_cons_zero, List.setIfInBounds_toArray, List.set_cons_zero, List.set_cons_succ]
      refine goes_take0 (i := 7) (v := .int .u64 ((n : Int) / 128)) rfl (by kernel_rfl) (by kernel_rfl) (by kernel_rfl) rfl (fun _ _ _ h => h) (Or.inl ⟨by rfl, ?gxn6⟩) (by assumption) ?gqn6
      case gxn6 => (intro W9 _; have e1 := HE1.out; have e2 := HE2.out; have e3 := HE3.out; have e4 := HE4.out; first | (go_simp; done) | (go_simp; with_reducible rfl))
      simp only [Act.put, List.getElem_toArray, List.getElem_cons_succ, List.getElem_cons_zero, List.setIfInBounds_toArray, List.set_cons_zero, List.set_cons_succ]
      refine goes_two (i := 4) (j := 8) (by kernel_rfl) rfl rfl (fun K9 hK9 => ?_) (fun K9 hK9 => ?_)
      · skip
        go_simp
        have hb := (new_one w (.cells #[.int .u8 ((n : Int) % 128 + 128)] 5)).drew
        have hNewwa : ((w).alloc (.cells #[.int .u8 ((n : Int) % 128 + 128)] 5)).drew.heap[w.heap.size]? = _ := heap_alloc_new w (.cells #[.int .u8 ((n : Int) % 128 + 128)] 5)
        obtain ⟨wa, hW⟩ : ∃ z, ((w).alloc (.cells #[.int .u8 ((n : Int) % 128 + 128)] 5)).drew = z := ⟨_, rfl⟩
        rw [hW] at hb hNewwa
        try rw [hW]
        have hAnwa := hb
        refine hK9.out _ _ (fun _ => hAnwa) (fun _ => ?_)
        clear hK9 K9 hHeld hb hW
        refine Goes.more (S2 := fun W => Below wa.heap.size wa W) (fun W h => hAnwa.trans (h.mono hAnwa.size)) ?_
        have hHeld := Below.refl wa.heap.size wa
        refine goes_take0 (i := 5) (v := .string s1) rfl (by kernel_rfl) (by kernel_rfl) (by kernel_rfl) rfl (fun _ _ _ h => h) (Or.inl ⟨by rfl, ?gxna1⟩) (by assumption) ?gqna1
        case gxna1 => (intro W9 hW9; have hc := conv_bytes ((one_at HBY.out hNewwa).below hW9); rw [HS1E.out] at hc; first | (go_simp; done) | (go_simp; with_reducible rfl))
        simp only [Act.put, List.getElem_toArray, List.getElem_cons_succ, List.getElem_cons_zero, List.setIfInBounds_toArray, List.set_cons_zero, List.set_cons_succ]
        refine goes_one (i := 8) (by kernel_rfl) rfl (fun K9 hK9 => ?_)
        go_simp
        with_reducible refine (HIH.out _).mono ?_
        rintro e wb ⟨rfl, hb5⟩
        have hAnwb := hHeld.trans ((hb5.out).mono hHeld.size)
        refine hK9.out _ _ (fun _ => hAnwb) (fun _ => ?_)
        clear hK9 K9 hHeld
        refine Goes.more (S2 := fun W => Below wb.heap.size wb W) (fun W h => hAnwb.trans (h.mono hAnwb.size)) ?_
        have hHeld := Below.refl wb.heap.size wb
        refine goes_take0 (i := 9) (v := .string (s1 ++ s2)) rfl (by kernel_rfl) (by kernel_rfl) (by kernel_rfl) rfl (fun _ _ _ h => h) (Or.inl ⟨by rfl, ?gxna2⟩) (by assumption) ?gqna2
        case gxna2 => (intro W9 _; have h1 := HSZ.out; have h2 := HS1.out; first | (go_simp; done) | (go_simp; omega))
        simp only [Act.put, List.getElem_toArray, List.getElem_cons_succ, List.getElem_cons_zero, List.setIfInBounds_toArray, List.set_cons_zero, List.set_cons_succ]
        refine goes_take0 (i := 10) (v := ?gwna3) rfl (by kernel_rfl) (by kernel_rfl) (by kernel_rfl) rfl (fun _ _ _ h => h) (Or.inl ⟨by rfl, ?gxna3⟩) (by assumption) ?gqna3
        case gxna3 => (intro W9 _; first | (go_simp; done) | (go_simp; with_reducible rfl))
        simp only [Act.put, List.getElem_toArray, List.getElem_cons_succ, List.getElem_cons_zero, List.setIfInBounds_toArray, List.set_cons_zero, List.set_cons_succ]
        refine goes_done (by kernel_rfl) ?_ _
        go_wp2
        go_ret
        exact ⟨rfl, Lib.hid (hAnwa.trans (hAnwb.mono hAnwa.size))⟩
      · skip
        go_simp
        with_reducible refine (HIH.out _).mono ?_
        rintro e wa ⟨rfl, hb5⟩
        have hAnwa := hHeld.trans ((hb5.out).mono hHeld.size)
        refine hK9.out _ _ (fun _ => hAnwa) (fun _ => ?_)
        clear hK9 K9 hHeld
        refine Goes.more (S2 := fun W => Below wa.heap.size wa W) (fun W h => hAnwa.trans (h.mono hAnwa.size)) ?_
        have hHeld := Below.refl wa.heap.size wa
        refine goes_one (i := 4) (by kernel_rfl) rfl (fun K9 hK9 => ?_)
        go_simp
        have hb := new_one wa (.cells #[.int .u8 ((n : Int) % 128 + 128)] 5)
        have hNewwb := heap_alloc_new wa (.cells #[.int .u8 ((n : Int) % 128 + 128)] 5)
        obtain ⟨wb, hW⟩ : ∃ z, (wa).alloc (.cells #[.int .u8 ((n : Int) % 128 + 128)] 5) = z := ⟨_, rfl⟩
        rw [hW] at hb hNewwb
        try rw [hW]
        have hAnwb := hHeld.trans (hb.mono hHeld.size)
        refine hK9.out _ _ (fun _ => hAnwb) (fun _ => ?_)
        clear hK9 K9 hHeld hb hW
        refine Goes.more (S2 := fun W => Below wb.heap.size wb W) (fun W h => hAnwb.trans (h.mono hAnwb.size)) ?_
        have hHeld := Below.refl wb.heap.size wb
        refine goes_take0 (i := 5) (v := .string s1) rfl (by kernel_rfl) (by kernel_rfl) (by kernel_rfl) rfl (fun _ _ _ h => h) (Or.inl ⟨by rfl, ?gxnb1⟩) (by assumption) ?gqnb1
        case gxnb1 => (intro W9 hW9; have hc := conv_bytes ((one_at HBY.out hNewwb).below hW9); rw [HS1E.out] at hc; first | (go_simp; done) | (go_simp; with_reducible rfl))
        simp only [Act.put, List.getElem_toArray, List.getElem_cons_succ, List.getElem_cons_zero, List.setIfInBounds_toArray, List.set_cons_zero, List.set_cons_succ]
        refine goes_take0 (i := 9) (v := .string (s1 ++ s2)) rfl (by kernel_rfl) (by kernel_rfl) (by kernel_rfl) rfl (fun _ _ _ h => h) (Or.inl ⟨by rfl, ?gxnb2⟩) (by assumption) ?gqnb2
        case gxnb2 => (intro W9 _; have h1 := HSZ.out; have h2 := HS1.out; first | (go_simp; done) | (go_simp; omega))
        simp only [Act.put, List.getElem_toArray, List.getElem_cons_succ, List.getElem_cons_zero, List.setIfInBounds_toArray, List.set_cons_zero, List.set_cons_succ]
        refine goes_take0 (i := 10) (v := ?gwnb3) rfl (by kernel_rfl) (by kernel_rfl) (by kernel_rfl) rfl (fun _ _ _ h => h) (Or.inl ⟨by rfl, ?gxnb3⟩) (by assumption) ?gqnb3
        case gxnb3 => (intro W9 _; first | (go_simp; done) | (go_simp; with_reducible rfl))
        simp only [Act.put, List.getElem_toArray, List.getElem_cons_succ, List.getElem_cons_zero, List.setIfInBounds_toArray, List.set_cons_zero, List.set_cons_succ]
        refine goes_done (by kernel_rfl) ?_ _
        go_wp2
        go_ret
        exact ⟨rfl, Lib.hid (hAnwa.trans (hAnwb.mono hAnwa.size))⟩
end Go.Proofs.Ytmhjabodhgacnaa
