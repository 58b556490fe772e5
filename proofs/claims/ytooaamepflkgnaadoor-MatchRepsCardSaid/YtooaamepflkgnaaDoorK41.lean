/- Texts that a proof rests on: A repetition matches what its words say. -/
import Derived.Test.YtooaamepflkgnaaDoorK40
import Derived.Test.YtooaamepflkgnaaDoorK39
set_option maxRecDepth 100000
namespace Go.Proofs.YtooaamepflkgnaaDoor
open Go.RowKit

theorem below_from {w a b : World} (hb : Below a.heap.size a b) (h : Below w.heap.size w a) : Below w.heap.size w b := below_step h hb
theorem beq_bool (b : Bool) : (b == b) = true := by cases b <;> rfl
theorem rrep_w (p r : Pat) (lo hi : Int) (h : Pat.mk 3 0 lo hi [p] = r) (ks : Value) (w : World) (hk : Kids w p.kids ks) :
    Calls Tryd.prog 18 #[(.agg #[.int .i64 p.op, .int .u64 (wd p.set 0), .int .u64 (wd p.set 1), .int .u64 (wd p.set 2), .int .u64 (wd p.set 3), .int .i64 p.lo, .int .i64 p.hi, ks]), .int .i64 lo, .int .i64 hi] w fun e w' => ∃ a c, e = .returned (.agg #[.int .i64 r.op, .int .u64 (wd r.set 0), .int .u64 (wd r.set 1), .int .u64 (wd r.set 2), .int .u64 (wd r.set 3), .int .i64 r.lo, .int .i64 r.hi, .slice a r.kids.length c]) ∧ Hid (Kids w' r.kids (.slice a r.kids.length c)) ∧ Below w.heap.size w w' := by
  subst h
  refine (rrep_any p ks lo hi w hk).mono ?_
  rintro e w' ⟨ks', rfl, hk2, hb⟩
  obtain ⟨a, c, rfl⟩ := Kids.len (kids := [p]) hk2
  exact ⟨a, c, rfl, hk2, hb⟩
theorem both_of {a b : Pat} (ha : a.num = true ∧ a.size ≤ 40) (hb : b.num = true ∧ b.size ≤ 40) : ∀ q ∈ [a, b], q.num = true ∧ q.size ≤ 40 := by
  intro q hq
  simp only [List.mem_cons, List.not_mem_nil, or_false] at hq
  rcases hq with h | h <;> rw [h] <;> assumption
theorem only_of {a : Pat} (ha : a.num = true ∧ a.size ≤ 40) : ∀ q ∈ [a], q.num = true ∧ q.size ≤ 40 := by
  intro q hq
  simp only [List.mem_cons, List.not_mem_nil, or_false] at hq
  rw [hq]; assumption
theorem fine_mk {s : ByteArray} {op lo hi : Int} {l : List Pat} (hs : s.size ≤ 90) (hop : numN op lo hi = true) (hl : ∀ q ∈ l, q.num = true ∧ q.size ≤ 40) (hn : l.length ≤ 2) : Fine s (Pat.mk op 0 lo hi l) := by
  refine ⟨hs, ?_, ?_⟩
  · rw [num_eq]
    simp only [Pat.op, Pat.lo, Pat.hi, Pat.kids, Bool.and_eq_true, List.all_eq_true]
    exact ⟨hop, fun q hq => (hl q hq).1⟩
  · rw [size_eq]
    have : Pat.sizes l ≤ 40 * l.length := by
      clear hn
      induction l with
      | nil => simp [Pat.sizes]
      | cons a l ih =>
        have := (hl a (by simp)).2
        have := ih (fun q hq => hl q (by simp [hq]))
        simp only [Pat.sizes, List.length_cons]; omega
    show 1 + Pat.sizes l < 9000
    omega
set_option maxHeartbeats 4000000 in
theorem reps_law (a s : ByteArray) (w : World) : Calls Tryd.prog 6 #[.string a, .string s] w fun e w' => e = .returned (.bool true) ∧ Below w.heap.size w w' := by
  have HAW := Lib.hid (awake_any w)
  by_cases ha : a.size > 8
  · have hd : decide ((a.size : Int) > 8) = true := by simp; omega
    have hd2 : decide ((8 : Int) < a.size) = true := by simp; omega
    go_enter Tryd.func6, Tryd.ntmps6
    go_wp2_with (go_at_call 7; (with_reducible refine HAW.out.mono ?_); rintro e w2 ⟨rfl, hb2⟩)
    go_ret
    exact ⟨rfl, hb2⟩
  have hda : decide ((a.size : Int) > 8) = false := by simp; omega
  have hda2 : decide ((8 : Int) < a.size) = false := by simp; omega
  by_cases hs : s.size > 12
  · have hd : decide ((s.size : Int) > 12) = true := by simp; omega
    have hd2 : decide ((12 : Int) < s.size) = true := by simp; omega
    go_enter Tryd.func6, Tryd.ntmps6
    go_wp2_with (go_at_call 7; (with_reducible refine HAW.out.mono ?_); rintro e w2 ⟨rfl, hb2⟩)
    go_ret
    exact ⟨rfl, hb2⟩
  have hds : decide ((s.size : Int) > 12) = false := by simp; omega
  have hds2 : decide ((12 : Int) < s.size) = false := by simp; omega
  have hs90 : s.size ≤ 90 := by omega
  go_enter Tryd.func6, Tryd.ntmps6
  go_upto_region 6 with (go_at_call 7; (with_reducible refine HAW.out.mono ?_); rintro e w2 ⟨rfl, hb2⟩)
  have HB2 := Lib.hid hb2
  have HMA := Lib.hid (make_ok a w2 (by omega))
  clear hb2 hda hda2 hds hds2
  go_upto_region 7 with (go_at_call 8; (with_reducible refine HMA.out.mono ?_); rintro e w3 ⟨p, ap, np, rfl, HP, HKP, HB3⟩)
  obtain ⟨nx, hnx⟩ : ∃ nx, w3.heap.size = nx := ⟨_, rfl⟩
  obtain ⟨w4, hw4⟩ : ∃ w4, w3.alloc (.cells #[.int .i64 p.op, .int .u64 (wd p.set 0), .int .u64 (wd p.set 1), .int .u64 (wd p.set 2), .int .u64 (wd p.set 3), .int .i64 p.lo, .int .i64 p.hi, .slice ap p.kids.length np] 28) = w4 := ⟨_, rfl⟩
  have HX4 : Hid (BoxN nx p (.slice ap p.kids.length np) w4) := Lib.hid (by rw [← hw4]; exact BoxN.new HKP.out hnx)
  have HB4 : Hid (Below w.heap.size w w4) := Lib.hid (by
    have h1 := HB2.out.trans (HB3.out.mono HB2.out.size)
    exact h1.trans (by rw [← hw4]; exact (below_one w3 _).mono h1.size))
  rw [hw4, hnx]
  obtain ⟨A, hA⟩ : ∃ A, Pat.mk 3 0 0 (-1) [p] = A := ⟨_, rfl⟩
  have HAE := Lib.hid hA
  have CA := Lib.hid (rrep_w p A 0 (-1) hA (.slice ap p.kids.length np) w4 HX4.out.kids)
  obtain ⟨x0, x1, x2, x3, x4, x5, x6, x7⟩ := cells8 HX4.out.box
  clear hw4 hnx hA HAW HMA HB2 HB3 HKP
  go_upto_region 8 with (go_at_call 18; (with_reducible refine CA.out.mono ?_); rintro e w5 ⟨aA, nA, rfl, HKA, hb5⟩)
  have HB5 := Lib.hid hb5
  obtain ⟨ny, hny⟩ : ∃ ny, w5.heap.size = ny := ⟨_, rfl⟩
  obtain ⟨w6, hw6⟩ : ∃ w6, w5.alloc (.cells #[.int .i64 A.op, .int .u64 (wd A.set 0), .int .u64 (wd A.set 1), .int .u64 (wd A.set 2), .int .u64 (wd A.set 3), .int .i64 A.lo, .int .i64 A.hi, .slice aA A.kids.length nA] 28) = w6 := ⟨_, rfl⟩
  have HY6 : Hid (BoxN ny A (.slice aA A.kids.length nA) w6) := Lib.hid (by rw [← hw6]; exact BoxN.new HKA.out hny)
  have HB46 : Hid (Below w4.heap.size w4 w6) := Lib.hid (HB5.out.trans (by rw [← hw6]; exact (below_one w5 _).mono HB5.out.size))
  have HX6 : Hid (BoxN nx p (.slice ap p.kids.length np) w6) := Lib.hid (HX4.out.below HB46.out)
  have HB6 : Hid (Below w.heap.size w w6) := Lib.hid (HB4.out.trans (HB46.out.mono HB4.out.size))
  rw [hw6, hny]
  clear hw6 hny hb5 HKA HB5 HB46 HX4 HB4 CA x0 x1 x2 x3 x4 x5 x6 x7
  obtain ⟨R1, HR1⟩ : ∃ R : Bool, Hid (R = true ↔ (Pat.mk 3 0 1 (-1) [p]).M s 0 s.size) := by
    classical
    exact ⟨decide ((Pat.mk 3 0 1 (-1) [p]).M s 0 s.size), by rw [Hid]; simp⟩
  have HPN : Hid (p.num = true ∧ p.size ≤ 40) := Lib.hid ⟨HP.out.1, by have := HP.out.2.1; omega⟩
  have HAN : Hid (A.num = true ∧ A.size ≤ 40) := Lib.hid (by
    rw [← HAE.out]
    refine ⟨?_, ?_⟩
    · rw [num_eq]
      simp only [Pat.op, Pat.lo, Pat.hi, Pat.kids, Bool.and_eq_true, List.all_eq_true]
      exact ⟨by decide, fun q hq => by simp at hq; rw [hq]; exact HP.out.1⟩
    · rw [size_eq]
      show 1 + Pat.sizes [p] ≤ 40
      have := HP.out.2.1
      simp only [Pat.sizes]; omega)
  obtain ⟨S1, hS1⟩ : ∃ S, Pat.mk 3 0 1 (-1) [p] = S := ⟨_, rfl⟩
  obtain ⟨C1, hC1⟩ : ∃ C, Pat.mk 1 0 0 0 [p, A] = C := ⟨_, rfl⟩
  have CS1 : Hid (∀ W, Below w6.heap.size w6 W → Calls Tryd.prog 18 #[(.agg #[.int .i64 p.op, .int .u64 (wd p.set 0), .int .u64 (wd p.set 1), .int .u64 (wd p.set 2), .int .u64 (wd p.set 3), .int .i64 p.lo, .int .i64 p.hi, .slice ap p.kids.length np]), .int .i64 1, .int .i64 (-1)] W fun e w' => ∃ a c, e = .returned (.agg #[.int .i64 S1.op, .int .u64 (wd S1.set 0), .int .u64 (wd S1.set 1), .int .u64 (wd S1.set 2), .int .u64 (wd S1.set 3), .int .i64 S1.lo, .int .i64 S1.hi, .slice a S1.kids.length c]) ∧ Hid (Kids w' S1.kids (.slice a S1.kids.length c)) ∧ Below W.heap.size W w') := Lib.hid fun W hb => rrep_w p S1 1 (-1) hS1 _ W (HX6.out.kids.below hb)
  have CW1 : Hid (∀ W a c, Hid (Kids W S1.kids (.slice a S1.kids.length c)) → Calls Tryd.prog 14 #[(.agg #[.int .i64 S1.op, .int .u64 (wd S1.set 0), .int .u64 (wd S1.set 1), .int .u64 (wd S1.set 2), .int .u64 (wd S1.set 3), .int .i64 S1.lo, .int .i64 S1.hi, .slice a S1.kids.length c]), .string s] W fun e w' => e = .returned (.bool R1) ∧ Below W.heap.size W w') := Lib.hid fun W a c hk => by subst hS1; exact whole_w s _ R1 HR1.out _ W (fine_mk hs90 (by decide) (only_of HPN.out) (by simp)) hk.out
  have CM1 : Hid (∀ W nb, Calls Tryd.prog 15 #[.int .i64 1, .slice (some ⟨nb, 0, none⟩) 2 2] W fun e w' => e = .returned (.agg #[.int .i64 C1.op, .int .u64 (wd C1.set 0), .int .u64 (wd C1.set 1), .int .u64 (wd C1.set 2), .int .u64 (wd C1.set 3), .int .i64 C1.lo, .int .i64 C1.hi, .slice (some ⟨nb, 0, none⟩) 2 2]) ∧ Below W.heap.size W w') := Lib.hid fun W nb => by rw [← hC1]; exact rmany_sl 1 (some ⟨nb, 0, none⟩) 2 2 [p, A] W
  have CX1 : Hid (∀ W nb, Kids W [p, A] (.slice (some ⟨nb, 0, none⟩) 2 2) → Calls Tryd.prog 14 #[(.agg #[.int .i64 C1.op, .int .u64 (wd C1.set 0), .int .u64 (wd C1.set 1), .int .u64 (wd C1.set 2), .int .u64 (wd C1.set 3), .int .i64 C1.lo, .int .i64 C1.hi, .slice (some ⟨nb, 0, none⟩) 2 2]), .string s] W fun e w' => e = .returned (.bool R1) ∧ Below W.heap.size W w') := Lib.hid fun W nb hk => by subst hC1; exact whole_w s _ R1 (by rw [← HAE.out, ← some_cat]; exact HR1.out) _ W (fine_mk hs90 (by decide) (both_of HPN.out HAN.out) (by simp)) hk
  have KT1 : Hid (∀ W, Below w6.heap.size w6 W → Kids (W.alloc (.cells #[.int .i64 p.op, .int .u64 (wd p.set 0), .int .u64 (wd p.set 1), .int .u64 (wd p.set 2), .int .u64 (wd p.set 3), .int .i64 p.lo, .int .i64 p.hi, .slice ap p.kids.length np, .int .i64 A.op, .int .u64 (wd A.set 0), .int .u64 (wd A.set 1), .int .u64 (wd A.set 2), .int .u64 (wd A.set 3), .int .i64 A.lo, .int .i64 A.hi, .slice aA A.kids.length nA] 28)) [p, A] (.slice (some ⟨W.heap.size, 0, none⟩) 2 2)) := Lib.hid fun W hb => Kids.two (HX6.out.kids.below hb) (HY6.out.kids.below hb) rfl
  have q1 := beq_bool R1
  clear hS1 hC1
  have hx : Box w6 nx #[.int .i64 p.op, .int .u64 (wd p.set 0), .int .u64 (wd p.set 1), .int .u64 (wd p.set 2), .int .u64 (wd p.set 3), .int .i64 p.lo, .int .i64 p.hi, .slice ap p.kids.length np] := HX6.out.box
  have hy : Box w6 ny #[.int .i64 A.op, .int .u64 (wd A.set 0), .int .u64 (wd A.set 1), .int .u64 (wd A.set 2), .int .u64 (wd A.set 3), .int .i64 A.lo, .int .i64 A.hi, .slice aA A.kids.length nA] := HY6.out.box
  have hlx := hx.lt
  have hly := hy.lt
  have HX := Lib.hid hx
  have HY := Lib.hid hy
  obtain ⟨x0, x1, x2, x3, x4, x5, x6, x7⟩ := hx.cells
  obtain ⟨y0, y1, y2, y3, y4, y5, y6, y7⟩ := hy.cells
  clear hx hy
  go_cut [8] from 8 to 9 (fun v wr => v = .bool true ∧ Hid (Below w6.heap.size w6 wr))
  case first =>
    go_region_held3 (fun W => W.cell? ⟨nx, 0, none⟩ = some (.int .i64 p.op) ∧ W.cell? ⟨nx, 1, none⟩ = some (.int .u64 (wd p.set 0)) ∧ W.cell? ⟨nx, 2, none⟩ = some (.int .u64 (wd p.set 1)) ∧ W.cell? ⟨nx, 3, none⟩ = some (.int .u64 (wd p.set 2)) ∧ W.cell? ⟨nx, 4, none⟩ = some (.int .u64 (wd p.set 3)) ∧ W.cell? ⟨nx, 5, none⟩ = some (.int .i64 p.lo) ∧ W.cell? ⟨nx, 6, none⟩ = some (.int .i64 p.hi) ∧ W.cell? ⟨nx, 7, none⟩ = some (.slice ap p.kids.length np) ∧ W.cell? ⟨ny, 0, none⟩ = some (.int .i64 A.op) ∧ W.cell? ⟨ny, 1, none⟩ = some (.int .u64 (wd A.set 0)) ∧ W.cell? ⟨ny, 2, none⟩ = some (.int .u64 (wd A.set 1)) ∧ W.cell? ⟨ny, 3, none⟩ = some (.int .u64 (wd A.set 2)) ∧ W.cell? ⟨ny, 4, none⟩ = some (.int .u64 (wd A.set 3)) ∧ W.cell? ⟨ny, 5, none⟩ = some (.int .i64 A.lo) ∧ W.cell? ⟨ny, 6, none⟩ = some (.int .i64 A.hi) ∧ W.cell? ⟨ny, 7, none⟩ = some (.slice aA A.kids.length nA) ∧ Below w6.heap.size w6 W)
      (first | (with_reducible exact s16_keep hlx hly (by assumption) (by assumption)) | (with_reducible exact s16_keep hlx hly (by assumption) (below_one _ _)) | (with_reducible exact s16_start HX.out HY.out (Below.refl _ _).drew))
      (first
        | (go_at_call 18; (with_reducible refine (CS1.out _ (s16_below (by assumption))).mono ?_); rintro e w8 ⟨a8, c8, rfl, hk8, hb8⟩)
        | (go_at_call 15; (with_reducible refine (CM1.out _ _).mono ?_); rintro e w7 ⟨rfl, hb7⟩)
        | (go_at_call 14; first
          | ((with_reducible refine (CW1.out _ _ _ hk8).mono ?_); rintro e w9 ⟨rfl, hb9⟩)
          | ((with_reducible refine (CW1.out _ _ _ (Lib.hid (hk8.out.below (below_one _ _)))).mono ?_); rintro e w9 ⟨rfl, hb9⟩)
          | ((with_reducible refine (CX1.out _ _ ?_).mono ?_); (· (repeat (first | exact (Below.refl _ _).drew | exact KT1.out _ (s16_below (by assumption)) | exact KT1.out _ (Below.refl _ _).drew | (refine KT1.out _ (below_from (by assumption) ?_)) | refine Kids.below (by assumption) ?_ | refine below_from (by assumption) ?_))); rintro e w9 ⟨rfl, hb9⟩)))
    all_goals
      have hfin := s16_below (by assumption)
      go_wp2_with fail
      go_meet
      exact ⟨rfl, hfin⟩
  case rest =>
    obtain ⟨rfl, HB9⟩ := hcut
    clear q1 CS1 CW1 CM1 CX1 KT1 HR1 x0 x1 x2 x3 x4 x5 x6 x7 y0 y1 y2 y3 y4 y5 y6 y7
    clear R1 S1 C1
    obtain ⟨R2, HR2⟩ : ∃ R : Bool, Hid (R = true ↔ (Pat.mk 3 0 2 2 [p]).M s 0 s.size) := by
      classical
      exact ⟨decide ((Pat.mk 3 0 2 2 [p]).M s 0 s.size), by rw [Hid]; simp⟩
    obtain ⟨S2, hS2⟩ : ∃ S, Pat.mk 3 0 2 2 [p] = S := ⟨_, rfl⟩
    obtain ⟨C2, hC2⟩ : ∃ C, Pat.mk 1 0 0 0 [p, p] = C := ⟨_, rfl⟩
    have CS2 : Hid (∀ W, Below w6.heap.size w6 W → Calls Tryd.prog 18 #[(.agg #[.int .i64 p.op, .int .u64 (wd p.set 0), .int .u64 (wd p.set 1), .int .u64 (wd p.set 2), .int .u64 (wd p.set 3), .int .i64 p.lo, .int .i64 p.hi, .slice ap p.kids.length np]), .int .i64 2, .int .i64 2] W fun e w' => ∃ a c, e = .returned (.agg #[.int .i64 S2.op, .int .u64 (wd S2.set 0), .int .u64 (wd S2.set 1), .int .u64 (wd S2.set 2), .int .u64 (wd S2.set 3), .int .i64 S2.lo, .int .i64 S2.hi, .slice a S2.kids.length c]) ∧ Hid (Kids w' S2.kids (.slice a S2.kids.length c)) ∧ Below W.heap.size W w') := Lib.hid fun W hb => rrep_w p S2 2 2 hS2 _ W (HX6.out.kids.below hb)
    have CW2 : Hid (∀ W a c, Hid (Kids W S2.kids (.slice a S2.kids.length c)) → Calls Tryd.prog 14 #[(.agg #[.int .i64 S2.op, .int .u64 (wd S2.set 0), .int .u64 (wd S2.set 1), .int .u64 (wd S2.set 2), .int .u64 (wd S2.set 3), .int .i64 S2.lo, .int .i64 S2.hi, .slice a S2.kids.length c]), .string s] W fun e w' => e = .returned (.bool R2) ∧ Below W.heap.size W w') := Lib.hid fun W a c hk => by subst hS2; exact whole_w s _ R2 HR2.out _ W (fine_mk hs90 (by decide) (only_of HPN.out) (by simp)) hk.out
    have CM2 : Hid (∀ W nb, Calls Tryd.prog 15 #[.int .i64 1, .slice (some ⟨nb, 0, none⟩) 2 2] W fun e w' => e = .returned (.agg #[.int .i64 C2.op, .int .u64 (wd C2.set 0), .int .u64 (wd C2.set 1), .int .u64 (wd C2.set 2), .int .u64 (wd C2.set 3), .int .i64 C2.lo, .int .i64 C2.hi, .slice (some ⟨nb, 0, none⟩) 2 2]) ∧ Below W.heap.size W w') := Lib.hid fun W nb => by rw [← hC2]; exact rmany_sl 1 (some ⟨nb, 0, none⟩) 2 2 [p, p] W
    have CX2 : Hid (∀ W nb, Kids W [p, p] (.slice (some ⟨nb, 0, none⟩) 2 2) → Calls Tryd.prog 14 #[(.agg #[.int .i64 C2.op, .int .u64 (wd C2.set 0), .int .u64 (wd C2.set 1), .int .u64 (wd C2.set 2), .int .u64 (wd C2.set 3), .int .i64 C2.lo, .int .i64 C2.hi, .slice (some ⟨nb, 0, none⟩) 2 2]), .string s] W fun e w' => e = .returned (.bool R2) ∧ Below W.heap.size W w') := Lib.hid fun W nb hk => by subst hC2; exact whole_w s _ R2 (by rw [← twice_cat]; exact HR2.out) _ W (fine_mk hs90 (by decide) (both_of HPN.out HPN.out) (by simp)) hk
    have KT2 : Hid (∀ W, Below w6.heap.size w6 W → Kids (W.alloc (.cells #[.int .i64 p.op, .int .u64 (wd p.set 0), .int .u64 (wd p.set 1), .int .u64 (wd p.set 2), .int .u64 (wd p.set 3), .int .i64 p.lo, .int .i64 p.hi, .slice ap p.kids.length np, .int .i64 p.op, .int .u64 (wd p.set 0), .int .u64 (wd p.set 1), .int .u64 (wd p.set 2), .int .u64 (wd p.set 3), .int .i64 p.lo, .int .i64 p.hi, .slice ap p.kids.length np] 28)) [p, p] (.slice (some ⟨W.heap.size, 0, none⟩) 2 2)) := Lib.hid fun W hb => Kids.two (HX6.out.kids.below hb) (HX6.out.kids.below hb) rfl
    have q2 := beq_bool R2
    clear hS2 hC2
    obtain ⟨x0, x1, x2, x3, x4, x5, x6, x7, y0, y1, y2, y3, y4, y5, y6, y7, hb0⟩ := s16_start HX.out HY.out HB9.out
    clear hb0
    go_upto_region 9 with fail
    go_cut [9] from 9 to 10 (fun v wr => v = .bool true ∧ Hid (Below w6.heap.size w6 wr))
    case first =>
      go_region_held3 (fun W => W.cell? ⟨nx, 0, none⟩ = some (.int .i64 p.op) ∧ W.cell? ⟨nx, 1, none⟩ = some (.int .u64 (wd p.set 0)) ∧ W.cell? ⟨nx, 2, none⟩ = some (.int .u64 (wd p.set 1)) ∧ W.cell? ⟨nx, 3, none⟩ = some (.int .u64 (wd p.set 2)) ∧ W.cell? ⟨nx, 4, none⟩ = some (.int .u64 (wd p.set 3)) ∧ W.cell? ⟨nx, 5, none⟩ = some (.int .i64 p.lo) ∧ W.cell? ⟨nx, 6, none⟩ = some (.int .i64 p.hi) ∧ W.cell? ⟨nx, 7, none⟩ = some (.slice ap p.kids.length np) ∧ W.cell? ⟨ny, 0, none⟩ = some (.int .i64 A.op) ∧ W.cell? ⟨ny, 1, none⟩ = some (.int .u64 (wd A.set 0)) ∧ W.cell? ⟨ny, 2, none⟩ = some (.int .u64 (wd A.set 1)) ∧ W.cell? ⟨ny, 3, none⟩ = some (.int .u64 (wd A.set 2)) ∧ W.cell? ⟨ny, 4, none⟩ = some (.int .u64 (wd A.set 3)) ∧ W.cell? ⟨ny, 5, none⟩ = some (.int .i64 A.lo) ∧ W.cell? ⟨ny, 6, none⟩ = some (.int .i64 A.hi) ∧ W.cell? ⟨ny, 7, none⟩ = some (.slice aA A.kids.length nA) ∧ Below w6.heap.size w6 W)
        (first | (with_reducible exact s16_keep hlx hly (by assumption) (by assumption)) | (with_reducible exact s16_keep hlx hly (by assumption) (below_one _ _)) | (with_reducible exact s16_start HX.out HY.out HB9.out.drew))
        (first
          | (go_at_call 18; (with_reducible refine (CS2.out _ (s16_below (by assumption))).mono ?_); rintro e w8 ⟨a8, c8, rfl, hk8, hb8⟩)
          | (go_at_call 15; (with_reducible refine (CM2.out _ _).mono ?_); rintro e w7 ⟨rfl, hb7⟩)
          | (go_at_call 14; first
            | ((with_reducible refine (CW2.out _ _ _ hk8).mono ?_); rintro e w9 ⟨rfl, hb9⟩)
            | ((with_reducible refine (CW2.out _ _ _ (Lib.hid (hk8.out.below (below_one _ _)))).mono ?_); rintro e w9 ⟨rfl, hb9⟩)
            | ((with_reducible refine (CX2.out _ _ ?_).mono ?_); (· (repeat (first | exact HB9.out.drew | exact KT2.out _ (s16_below (by assumption)) | exact KT2.out _ HB9.out.drew | (refine KT2.out _ (below_from (by assumption) ?_)) | refine Kids.below (by assumption) ?_ | refine below_from (by assumption) ?_))); rintro e w9 ⟨rfl, hb9⟩)))
      all_goals
        have hfin := s16_below (by assumption)
        go_wp2_with fail
        go_meet
        exact ⟨rfl, hfin⟩
    case rest =>
      obtain ⟨rfl, HB10⟩ := hcut
      clear q2 CS2 CW2 CM2 CX2 KT2 HR2 x0 x1 x2 x3 x4 x5 x6 x7 y0 y1 y2 y3 y4 y5 y6 y7 HB9
      clear R2 S2 C2
      obtain ⟨R0, HR0⟩ : ∃ R : Bool, Hid (R = true ↔ (Pat.mk 3 0 0 1 [p]).M s 0 s.size) := by
        classical
        exact ⟨decide ((Pat.mk 3 0 0 1 [p]).M s 0 s.size), by rw [Hid]; simp⟩
      obtain ⟨Rn, HRn⟩ : ∃ R : Bool, Hid (R = true ↔ p.M s 0 s.size) := by
        classical
        exact ⟨decide (p.M s 0 s.size), by rw [Hid]; simp⟩
      obtain ⟨S0, hS0⟩ : ∃ S, Pat.mk 3 0 0 1 [p] = S := ⟨_, rfl⟩
      have CS0 : Hid (∀ W, Below w6.heap.size w6 W → Calls Tryd.prog 18 #[(.agg #[.int .i64 p.op, .int .u64 (wd p.set 0), .int .u64 (wd p.set 1), .int .u64 (wd p.set 2), .int .u64 (wd p.set 3), .int .i64 p.lo, .int .i64 p.hi, .slice ap p.kids.length np]), .int .i64 0, .int .i64 1] W fun e w' => ∃ a c, e = .returned (.agg #[.int .i64 S0.op, .int .u64 (wd S0.set 0), .int .u64 (wd S0.set 1), .int .u64 (wd S0.set 2), .int .u64 (wd S0.set 3), .int .i64 S0.lo, .int .i64 S0.hi, .slice a S0.kids.length c]) ∧ Hid (Kids w' S0.kids (.slice a S0.kids.length c)) ∧ Hid (Below w6.heap.size w6 w')) := Lib.hid fun W hb => (rrep_w p S0 0 1 hS0 _ W (HX6.out.kids.below hb)).mono fun e w' ⟨a, c, h1, h2, h3⟩ => ⟨a, c, h1, h2, below_step hb h3⟩
      have CW0 : Hid (∀ W a c, Hid (Kids W S0.kids (.slice a S0.kids.length c)) → Hid (Below w6.heap.size w6 W) → Calls Tryd.prog 14 #[(.agg #[.int .i64 S0.op, .int .u64 (wd S0.set 0), .int .u64 (wd S0.set 1), .int .u64 (wd S0.set 2), .int .u64 (wd S0.set 3), .int .i64 S0.lo, .int .i64 S0.hi, .slice a S0.kids.length c]), .string s] W fun e w' => e = .returned (.bool R0) ∧ Hid (Below w6.heap.size w6 w')) := Lib.hid fun W a c hk hb => by
        subst hS0
        exact (whole_w s _ R0 HR0.out _ W (fine_mk hs90 (by decide) (only_of HPN.out) (by simp)) hk.out).mono fun e w' ⟨h1, h3⟩ => ⟨h1, below_step hb.out h3⟩
      have CP : Hid (∀ W, Hid (Below w6.heap.size w6 W) → Calls Tryd.prog 14 #[(.agg #[.int .i64 p.op, .int .u64 (wd p.set 0), .int .u64 (wd p.set 1), .int .u64 (wd p.set 2), .int .u64 (wd p.set 3), .int .i64 p.lo, .int .i64 p.hi, .slice ap p.kids.length np]), .string s] W fun e w' => e = .returned (.bool Rn) ∧ Hid (Below w6.heap.size w6 w')) := Lib.hid fun W hb => (whole_w s p Rn HRn.out _ W ⟨hs90, HPN.out.1, by have := HPN.out.2; omega⟩ (HX6.out.kids.below hb.out)).mono fun e w' ⟨h1, h3⟩ => ⟨h1, below_step hb.out h3⟩
      have CE : Hid (∀ W, Hid (Below w6.heap.size w6 W) → Calls Tryd.prog 14 #[(.agg #[.int .i64 A.op, .int .u64 (wd A.set 0), .int .u64 (wd A.set 1), .int .u64 (wd A.set 2), .int .u64 (wd A.set 3), .int .i64 A.lo, .int .i64 A.hi, .slice aA A.kids.length nA]), .string ⟨#[]⟩] W fun e w' => e = .returned (.bool true) ∧ Hid (Below w6.heap.size w6 w')) := Lib.hid fun W hb => (whole_w ⟨#[]⟩ A true (by rw [← HAE.out]; exact ⟨fun _ => any_empty _ p 0, fun _ => rfl⟩) _ W ⟨by decide, HAN.out.1, by have := HAN.out.2; omega⟩ (HY6.out.kids.below hb.out)).mono fun e w' ⟨h1, h3⟩ => ⟨h1, below_step hb.out h3⟩
      have HE0 : Hid (R0 = true ↔ s.size = 0 ∨ Rn = true) := Lib.hid (by
        rw [HR0.out, once_may, HRn.out]
        constructor
        · rintro (h | h)
          · exact .inl (by omega)
          · exact .inr h
        · rintro (h | h)
          · exact .inl (by omega)
          · exact .inr h)
      clear hS0
      obtain ⟨x0, x1, x2, x3, x4, x5, x6, x7, y0, y1, y2, y3, y4, y5, y6, y7, hb0⟩ := s16_start HX.out HY.out HB10.out
      clear hb0
      by_cases hz : s.size = 0
      · obtain rfl : s = ⟨#[]⟩ := ByteArray.ext (Array.eq_empty_of_size_eq_zero hz)
        obtain rfl : R0 = true := HE0.out.2 (.inl hz)
        go_wp2_with (first
          | (go_at_call 18; (with_reducible refine (CS0.out _ HB10.out).mono ?_); rintro e w11 ⟨a8, c8, rfl, HK11, HB11⟩)
          | (go_at_call 14; first
            | ((with_reducible refine (CW0.out _ _ _ HK11 HB11).mono ?_); rintro e w12 ⟨rfl, HB12⟩; obtain ⟨x0, x1, x2, x3, x4, x5, x6, x7, y0, y1, y2, y3, y4, y5, y6, y7, hb0⟩ := s16_start HX.out HY.out HB12.out; clear hb0)
            | ((with_reducible refine (CE.out _ HB12).mono ?_); rintro e w13 ⟨rfl, HB13⟩)))
        go_ret
        exact ⟨rfl, below_step HB6.out HB13.out⟩
      · have he : s.toList.isEmpty = false := by
          rw [ByteArray.toList_eq]
          cases h : s.data.toList with
          | nil => exact absurd (show s.data.toList.length = 0 by rw [h]; rfl) hz
          | cons x l => rfl
        obtain rfl : R0 = Rn := by
          rw [Bool.eq_iff_iff, HE0.out]
          exact ⟨fun h => h.resolve_left hz, .inr⟩
        have q3 := beq_bool R0
        go_wp2_with (first
          | (go_at_call 18; (with_reducible refine (CS0.out _ HB10.out).mono ?_); rintro e w11 ⟨a8, c8, rfl, HK11, HB11⟩)
          | (go_at_call 14; first
            | ((with_reducible refine (CW0.out _ _ _ HK11 HB11).mono ?_); rintro e w12 ⟨rfl, HB12⟩; obtain ⟨x0, x1, x2, x3, x4, x5, x6, x7, y0, y1, y2, y3, y4, y5, y6, y7, hb0⟩ := s16_start HX.out HY.out HB12.out; clear hb0)
            | ((with_reducible refine (CP.out _ HB12).mono ?_); rintro e w13 ⟨rfl, HB13⟩; obtain ⟨x0, x1, x2, x3, x4, x5, x6, x7, y0, y1, y2, y3, y4, y5, y6, y7, hb0⟩ := s16_start HX.out HY.out HB13.out; clear hb0)
            | ((with_reducible refine (CE.out _ HB13).mono ?_); rintro e w14 ⟨rfl, HB14⟩)))
        go_ret
        exact ⟨rfl, below_step HB6.out HB14.out⟩
end Go.Proofs.YtooaamepflkgnaaDoor
