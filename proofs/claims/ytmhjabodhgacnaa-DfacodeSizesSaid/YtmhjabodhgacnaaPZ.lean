/- The laws' examples hold. -/
import Derived.Test.YtmhjabodhgacnaaPX
import Derived.Test.YtmhjabodhgacnaaPR
set_option maxRecDepth 100000
namespace Go.Proofs.Ytmhjabodhgacnaa
open Go.RowKit

theorem body0 : bodyB [] = [68, 70, 65, 49, 0] := by unfold bodyB; rw [List.length_nil, numB_lt (by omega)]; rfl
theorem put0_len : (putB []).length = 9 := by rw [putB_len, body0]; rfl
theorem put0_take : (putB []).take 5 = [68, 70, 65, 49, 0] := by unfold putB; rw [body0]; rfl
theorem check0 : checkB [] = true := by decide
theorem mays0 : Mays [] := fun s h => by cases h
theorem get0 : getB (putB []) = some [] := getB_put check0 mays0
theorem put0_bytes : ∀ x ∈ putB [], x < 256 := putB_bytes fun s h => by cases h
theorem get0_more : getB (putB [] ++ [0]) = none := by
  cases h : getB (putB [] ++ [0]) with
  | none => rfl
  | some m =>
    have hb : ∀ x ∈ putB [] ++ [0], x < 256 := by
      intro x hx
      rcases List.mem_append.1 hx with hx | hx
      · exact put0_bytes x hx
      · simp at hx; omega
    obtain ⟨h1, h2, h3⟩ := getB_some hb h
    have h4 := cut_none h1 h2 (k := 9) (by rw [h3, List.length_append, put0_len]; decide)
    rw [h3, List.take_append_of_le_length (by rw [put0_len]; omega), List.take_of_length_le (by rw [put0_len]; omega), get0] at h4
    cases h4
theorem num300 : numB 300 = [172, 2] := by rw [numB_ge (by omega), numB_lt (by omega)]
theorem val300 : valB [172, 2, 9] = (300, 2) := rfl
theorem put_yes (v : Value) (m : List Sta) (w : World) (hv : MachAt w v m) (hl : ∀ s ∈ m, s.arcs.length < 9223372036854775808) (hm : Mays m) (hc : checkB m = true) :
    Calls Try.prog 9 #[v] w fun e w' => ∃ a c, e = .returned (.tuple #[.slice a (putB m).length c, .int .i64 0]) ∧ Hid (OwnF w' w.heap.size (.slice a (putB m).length c) (putB m)) ∧ Hid (Below w.heap.size w w') :=
  (put_any v m w hv hl hm).mono fun e w' ⟨u, h1, h2, h3⟩ => by
    rw [hc] at h1 h2
    have h2 : Hid (OwnF w' w.heap.size u (putB m)) := h2
    obtain ⟨a, c, rfl⟩ := h2.out.form
    exact ⟨a, c, h1, h2, h3⟩
theorem put_no (v : Value) (m : List Sta) (w : World) (hv : MachAt w v m) (hl : ∀ s ∈ m, s.arcs.length < 9223372036854775808) (hm : Mays m) (hc : checkB m = false) :
    Calls Try.prog 9 #[v] w fun e w' => ∃ a c, e = .returned (.tuple #[.slice a 0 c, .int .i64 110]) ∧ Hid (OwnF w' w.heap.size (.slice a 0 c) []) ∧ Hid (Below w.heap.size w w') :=
  (put_any v m w hv hl hm).mono fun e w' ⟨u, h1, h2, h3⟩ => by
    rw [hc] at h1 h2
    have h2 : Hid (OwnF w' w.heap.size u []) := h2
    obtain ⟨a, c, rfl⟩ := h2.out.form
    exact ⟨a, c, h1, h2, h3⟩
theorem get_yes (v : Value) (l : List Nat) (w : World) (h : BytesAt w v l) (hl : l.length < 9223372036854775808) (hb : ∀ x ∈ l, x < 256) (hv : LowB w.heap.size v) {m : List Sta} (hg : getB l = some m) :
    Calls Try.prog 18 #[v] w fun e w' => ∃ a c, e = .returned (.tuple #[.slice a m.length c, .int .i64 0]) ∧ Hid (MachAt w' (.slice a m.length c) m) ∧ Hid (Below w.heap.size w w') :=
  (get_any v l w h hl hb hv).mono fun e w' ⟨u, h1, h2, h3⟩ => by
    rw [hg] at h1 h2
    have h2 : Hid (MachAt w' u m) := h2
    obtain ⟨a, c, rfl⟩ := h2.out.len
    exact ⟨a, c, h1, h2, h3⟩
theorem get_no (v : Value) (l : List Nat) (w : World) (h : BytesAt w v l) (hl : l.length < 9223372036854775808) (hb : ∀ x ∈ l, x < 256) (hv : LowB w.heap.size v) (hg : getB l = none) :
    Calls Try.prog 18 #[v] w fun e w' => ∃ a c, e = .returned (.tuple #[.slice a 0 c, .int .i64 110]) ∧ Hid (MachAt w' (.slice a 0 c) []) ∧ Hid (Below w.heap.size w w') :=
  (get_any v l w h hl hb hv).mono fun e w' ⟨u, h1, h2, h3⟩ => by
    rw [hg] at h1 h2
    have h2 : Hid (MachAt w' u []) := h2
    obtain ⟨a, c, rfl⟩ := h2.out.len
    exact ⟨a, c, h1, h2, h3⟩
theorem news_at {w : World} {ad : Addr} {n c : Nat} {l : List Nat} (h : BytesAt w (.slice (some ad) n c) l) : ∀ j u, (u8s l)[j]? = some u → w.cell? (ad.add j) = some u := by
  intro j u hj
  have hj2 : j < l.length := by
    have := (List.getElem?_eq_some_iff.1 hj).1
    rwa [u8s_len] at this
  obtain ⟨b, o, e, h2⟩ := h.at hj2
  cases e
  rw [u8s_at hj2] at hj
  rw [add_none, h2]; exact hj
theorem addr_at {w : World} {a : Option Addr} {n c : Nat} {l : List Nat} (h : BytesAt w (.slice a n c) l) (hp : 0 < l.length) : ∃ ad, a = some ad := by
  obtain ⟨b, o, e, _⟩ := h.at hp
  exact ⟨_, e⟩
theorem zero_at {w : World} {b : Nat} (h : w.heap[b]? = some (.cells #[.int .u8 0] 5 (0, 0))) : ∀ j u, (u8s [0])[j]? = some u → w.cell? ((⟨b, 0, none⟩ : Addr).add j) = some u := one_byte (x := 0) rfl h
theorem three_at {w : World} {b : Nat} (h : w.heap[b]? = some (.cells #[.int .u8 172, .int .u8 2, .int .u8 9] 5 (0, 0))) : BytesAt w (.slice (some ⟨b, 0, none⟩) 3 3) [172, 2, 9] := by
  refine ⟨_, 3, rfl, Nat.le_refl _, fun i hi => ⟨b, 0, rfl, ?_⟩⟩
  have hi3 : i < 3 := hi
  match i, hi3 with
  | 0, _ => exact (cell_of_row _ _ 0 _ _ _ h).trans rfl
  | 1, _ => exact (cell_of_row _ _ 1 _ _ _ h).trans rfl
  | 2, _ => exact (cell_of_row _ _ 2 _ _ _ h).trans rfl
set_option maxHeartbeats 8000000 in
theorem awake_any (w : World) : Calls Try.prog 8 #[] w fun e w' => e = .returned (.bool true) ∧ Below w.heap.size w w' := by
  obtain ⟨N, hN⟩ : ∃ N, w.heap.size = N := ⟨_, rfl⟩
  have HN := Lib.hid hN
  have HPU := Lib.hid (put_yes (.slice none 0 0) [] w (MachAt.nil w) (fun s h => by cases h) mays0 check0)
  rw [put0_len, hN] at HPU
  have HGE : Hid (∀ v W, BytesAt W v (putB []) → LowB W.heap.size v → Calls Try.prog 18 #[v] W fun e w' => ∃ a c, e = .returned (.tuple #[.slice a 0 c, .int .i64 0]) ∧ Hid (MachAt w' (.slice a 0 c) []) ∧ Hid (Below W.heap.size W w')) := Lib.hid (fun v W h hv => get_yes v _ W h (by rw [put0_len]; decide) put0_bytes hv get0)
  have HGN : Hid (∀ v W, BytesAt W v (putB [] ++ [0]) → LowB W.heap.size v → Calls Try.prog 18 #[v] W fun e w' => ∃ a c, e = .returned (.tuple #[.slice a 0 c, .int .i64 110]) ∧ Hid (MachAt w' (.slice a 0 c) []) ∧ Hid (Below W.heap.size W w')) := Lib.hid (fun v W h hv => get_no v _ W h (by rw [List.length_append, put0_len]; decide) (by intro x hx; rcases List.mem_append.1 hx with hx | hx; exact put0_bytes x hx; simp at hx; omega) hv get0_more)
  obtain ⟨P0, hP0⟩ : ∃ P0, putB [] = P0 := ⟨_, rfl⟩
  have HL9 : Hid (P0.length = 9) := Lib.hid (by rw [← hP0]; exact put0_len)
  have HT5 : Hid (P0.take 5 = [68, 70, 65, 49, 0]) := Lib.hid (by rw [← hP0]; exact put0_take)
  rw [hP0] at HPU HGE HGN
  clear hP0
  go_enter Try.func8, Try.ntmps8
  go_upto_region 2 with (go_at_call 9; (with_reducible refine HPU.out.mono ?_); rintro e w1 ⟨a1, c1, rfl, ho1, hb1⟩)
  have HO1 := ho1
  have HB1 := hb1
  have HGE1 := Lib.hid (HGE.out _ w1 HO1.out.bytes HO1.out.low)
  obtain ⟨ad1, rfl⟩ := addr_at HO1.out.bytes (by rw [HL9.out]; omega)
  go_upto_region 3 with (go_at_call 18; (with_reducible refine HGE1.out.mono ?_); rintro e w2 ⟨a2, c2, rfl, hm2, hb2⟩)
  have HO2 := Lib.hid (HO1.out.below hb2.out)
  have HB2 : Hid (Below N w w2) := Lib.hid (HB1.out.trans (hb2.out.mono (by rw [← HN.out]; exact HB1.out.size)))
  have hN2 : N ≤ w2.heap.size := by rw [← HN.out]; exact HB2.out.size
  have HN2 := Lib.hid hN2
  clear hm2 hb2 HGE1 HGE HPU ho1 hb1
  go_upto_region 5 with (at_builtin; refine wpList_append_of rfl _ _ rfl N (.slice none 0 0) [] P0 0 rfl rfl (OwnF.nil _ _) ad1 c1 9 HL9.out rfl (news_at HO2.out.bytes) (by omega) (by omega) HN2.out ?_; intro g3 cap3 w3 h2 h3 h4)
  have HO3 : Hid (OwnF w3 N (.slice (some ⟨g3, 0, none⟩) (0 + 9) cap3) P0) := Lib.hid h2
  have HB3 : Hid (Below N w w3) := Lib.hid (HB2.out.trans (h4.below HN2.out (fun k hk => by cases hk)))
  have HB23 : Hid (Below w2.heap.size w2 w3) := Lib.hid ⟨h4.g.os, h4.g.tape, h4.g.output, h4.g.size, fun k hk => h4.g.block k hk (by intro e; cases e)⟩
  have HG3 : Hid (w2.heap.size ≤ g3) := Lib.hid (by
    rcases h4.o with e | e
    · cases e
    · exact e g3 rfl)
  have hN3 : N ≤ w3.heap.size := by rw [← HN.out]; exact HB3.out.size
  have HN3 := Lib.hid hN3
  have HOA := Lib.hid (HO3.out.below (new_one w3 (.cells #[.int .u8 0] 5)))
  clear h2 h3 h4 hN2
  go_upto_region 6 with (at_builtin; refine wpList_append_of rfl _ _ rfl N (.slice (some ⟨g3, 0, none⟩) 9 cap3) P0 [0] 9 HL9.out rfl HOA.out ⟨w3.heap.size, 0, none⟩ 1 1 rfl rfl (zero_at (heap_alloc_new w3 _)) (by omega) (by omega) (by simp; have := HN3.out; omega) ?_; intro g4 cap4 w4 h2 h3 h4)
  have HO4 : Hid (OwnF w4 N (.slice (some ⟨g4, 0, none⟩) 10 cap4) (P0 ++ [0])) := Lib.hid h2
  have HB4 : Hid (Below N w w4) := Lib.hid ((HB3.out.trans ((new_one w3 _).mono HN3.out)).trans (HOA.out.gr h4 (by simp; have := HN3.out; omega)))
  have HB34 : Hid (Below N w3 w4) := Lib.hid (((new_one w3 _).mono HN3.out).trans (HOA.out.gr h4 (by simp; have := HN3.out; omega)))
  have HGN4 := Lib.hid (HGN.out _ w4 HO4.out.bytes HO4.out.low)
  have hN4 : N ≤ w4.heap.size := by rw [← HN.out]; exact HB4.out.size
  have HN4 := Lib.hid hN4
  have HO2c : Hid (BytesAt w4 (.slice (some ad1) 9 c1) P0) := Lib.hid (by
    refine HO2.out.bytes.below (HB23.out.trans (((new_one w3 _).mono HB23.out.size).trans (h4.below (by have := HB23.out.size; simp; omega) fun k hk => ?_)))
    cases hk
    exact HG3.out)
  clear h2 h3 h4 hN3 hN4
  go_upto_region 7 with (go_at_call 18; (with_reducible refine HGN4.out.mono ?_); rintro e w5 ⟨a5, c5, rfl, hm5, hb5⟩)
  have HB5 : Hid (Below N w w5) := Lib.hid (HB4.out.trans (hb5.out.mono HN4.out))
  have hN5 : N ≤ w5.heap.size := by rw [← HN.out]; exact HB5.out.size
  have HN5 := Lib.hid hN5
  have HBY := Lib.hid (HO2c.out.below (hb5.out.trans ((new_one w5 (.cells #[.int .u8 172, .int .u8 2, .int .u8 9] 5)).mono hb5.out.size)))
  have HVA := Lib.hid (value_any _ [172, 2, 9] (w5.alloc (.cells #[.int .u8 172, .int .u8 2, .int .u8 9] 5)) (three_at (heap_alloc_new w5 _)) (by decide) (by decide))
  rw [val300] at HVA
  have HVA : Hid (Calls Try.prog 11 #[.slice (some ⟨w5.heap.size, 0, none⟩) 3 3] (w5.alloc (.cells #[.int .u8 172, .int .u8 2, .int .u8 9] 5)) fun e w' => e = .returned (.tuple #[.int .u64 300, .int .i64 2]) ∧ w' = w5.alloc (.cells #[.int .u8 172, .int .u8 2, .int .u8 9] 5)) := HVA
  clear hm5 hb5 hN5
  go_upto_region 8 with (go_at_call 11; (with_reducible refine HVA.out.mono ?_); rintro e w6 ⟨rfl, e6⟩; subst w6)
  obtain ⟨w6, hw6⟩ : ∃ w6, w5.alloc (.cells #[.int .u8 172, .int .u8 2, .int .u8 9] 5) = w6 := ⟨_, rfl⟩
  have HB6 : Hid (Below N w w6) := Lib.hid (by rw [← hw6]; exact HB5.out.trans ((new_one w5 _).mono HN5.out))
  rw [hw6] at HBY ⊢
  have HC1 : Hid (9 ≤ c1) := Lib.hid (by obtain ⟨a, c, e, h, _⟩ := HBY.out; injection e with _ e2 e3; omega)
  have hsl := slice_upto (w := w6) (a := some ad1) (n := 9) (c := c1) (k := 5) (by have := HC1.out; omega)
  have HTK := Lib.hid (HBY.out.take (k := 5) (by rw [HL9.out]; omega))
  rw [HT5.out] at HTK
  obtain ⟨ua, un, uc, hu⟩ : ∃ ua un uc, sliced (some ad1) 0 5 c1 1 = .slice ua un uc := ⟨_, _, _, rfl⟩
  rw [hu] at HTK hsl
  have hsl : (Instr.slice 25 (.slice (some ad1) 9 c1) none (some (.int .i64 5)) none).run Try.prog w6 = .ok (.slice ua un uc) w6 := hsl
  have hcv : (convert 25 9 (.slice ua un uc)).run Try.prog w6 = .ok (.string ⟨#[68, 70, 65, 49, 0]⟩) w6 := conv_bytes HTK.out
  have HN3' := Lib.hid (number11_any 300 w6 (by omega))
  rw [num300] at HN3'
  have HNU : Hid (Calls Try.prog 13 #[.int .u64 300] w6 fun e w' => ∃ v, e = .returned v ∧ Hid (OwnF w' w6.heap.size v [172, 2]) ∧ Hid (Below w6.heap.size w6 w')) := HN3'
  have HSU : Hid (∀ W, Calls Try.prog 15 #[.slice none 0 0] W fun e w' => e = .returned (.int .u32 2166136261) ∧ w' = W) := Lib.hid (fun W => sum_any (.slice none 0 0) [] W (BytesAt.nil W) (by decide) (fun x h => by cases h))
  clear hw6 hu HVA
  go_wp2_with (first
    | (go_at_call 13; (with_reducible refine HNU.out.mono ?_); rintro e w7 ⟨v7, rfl, ho7, hb7⟩; obtain ⟨a7, c7, rfl⟩ := ho7.out.form; have hcv7 : (convert 25 9 (.slice a7 2 c7)).run Try.prog w7 = .ok (.string ⟨#[172, 2]⟩) w7 := conv_bytes ho7.out.bytes; have HB7 : Hid (Below N w w7) := Lib.hid (HB6.out.trans (hb7.out.mono (by rw [← HN.out]; exact HB6.out.size))))
    | (go_at_call 15; (with_reducible refine (HSU.out _).mono ?_); rintro e w8 ⟨rfl, e8⟩; subst w8))
  go_ret
  exact ⟨rfl, by rw [HN.out]; exact HB7.out⟩
end Go.Proofs.Ytmhjabodhgacnaa
