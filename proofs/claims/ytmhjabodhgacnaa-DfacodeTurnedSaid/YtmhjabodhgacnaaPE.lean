/- Contracts: number, upTo. -/
import Derived.Test.YtmhjabodhgacnaaPD
set_option maxRecDepth 100000
namespace Go.Proofs.Ytmhjabodhgacnaa
open Go.RowKit

/-- What a reader may have. -/
def ROk (s : RS) : Prop := (∀ x ∈ s.1, x < 256) ∧ s.1.length < 9223372036854775808
def KeepR {α : Type} (f : RS → α × RS) : Prop := ∀ s, ROk s → ROk (f s).2
theorem rok_nil : ROk ([], true) := ⟨fun x h => (by cases h), by decide⟩
theorem rdNum_ok : KeepR rdNum := by
  intro s h
  unfold rdNum
  split
  · exact rok_nil
  · exact ⟨fun x hx => h.1 x (List.mem_of_mem_drop hx), by have := h.2; simp only [List.length_drop]; omega⟩
theorem rdOne_ok : KeepR rdOne := by
  intro s h
  obtain ⟨l, e⟩ := s
  cases l with
  | nil => exact rok_nil
  | cons b l => exact ⟨fun x hx => h.1 x (List.mem_cons_of_mem _ hx), by have := h.2; simp only [List.length_cons] at this; show l.length < _; omega⟩
theorem rdUp_ok (most : Nat) : KeepR (rdUp most) := by
  intro s h
  unfold rdUp
  split
  · exact rok_nil
  · exact rdNum_ok s h
theorem rdArc_ok : KeepR rdArc := fun s h => rdUp_ok 4096 _ (rdOne_ok _ (rdOne_ok s h))
theorem rdRep_ok {α : Type} {f : RS → α × RS} (hf : KeepR f) : ∀ n, KeepR (rdRep f n)
  | 0 => fun s h => h
  | n + 1 => fun s h => by
    rw [rdRep]
    split
    · exact h
    · exact rdRep_ok hf n _ (hf s h)
theorem rdList_ok {α : Type} {f : RS → α × RS} (hf : KeepR f) (most : Nat) : KeepR (rdList f most) := fun s h => rdRep_ok hf _ _ (rdUp_ok most s h)
theorem rdSt_ok : KeepR rdSt := fun s h => rdList_ok rdArc_ok 256 _ (rdNum_ok s h)
theorem rdNum_lt (s : RS) : (rdNum s).1 < 18446744073709551616 := by
  unfold rdNum
  split
  · simp
  · exact valB_lt _
theorem rdUp_le (most : Nat) (s : RS) : (rdUp most s).1 ≤ most := by
  unfold rdUp
  split
  · exact Nat.zero_le _
  · omega
theorem rdOne_lt {s : RS} (h : ROk s) : (rdOne s).1 < 256 := by
  obtain ⟨l, e⟩ := s
  cases l with
  | nil => show 0 < 256; omega
  | cons b l => exact h.1 b (by simp)
theorem rdNum_no {s : RS} (h : (valB s.1).2 = 0) : rdNum s = (0, ([], true)) := by unfold rdNum; rw [if_pos h]
theorem rdNum_yes {s : RS} (h : (valB s.1).2 ≠ 0) : rdNum s = ((valB s.1).1, (s.1.drop (valB s.1).2, s.2)) := by unfold rdNum; rw [if_neg h]
set_option maxHeartbeats 4000000 in
theorem number_any (R : Nat) (s : RS) (w : World) (h : RB w R s) (hs : ROk s) :
    Calls Try.prog 34 #[.pointer (some ⟨R, 0, none⟩)] w fun e w' => e = .returned (.int .u64 ((rdNum s).1 : Nat)) ∧ Hid (RB w' R (rdNum s).2) ∧ Hid (w.grownBy w' (some R)) := by
  have HR := Lib.hid h
  obtain ⟨lv, h1, h2, h3⟩ := h
  have hRl := lt_of_block h1
  have HRL := Lib.hid hRl
  have HL := Lib.hid h3
  clear h3 hRl
  obtain ⟨l, er⟩ := s
  have c0 : w.cell? ⟨R, 0, none⟩ = some lv := (cell_of_row w R 0 _ _ _ h1).trans rfl
  have f0 : w.frozen? ⟨R, 0, none⟩ = false := free_cells h1
  have H1 := Lib.hid h1
  have H2 : Hid (BytesAt w lv l) := Lib.hid h2
  obtain ⟨a, c, rfl, hc⟩ := H2.out.len
  have hl : l.length < 9223372036854775808 := hs.2
  have HV := Lib.hid (value_any (.slice a l.length c) l w H2.out hl hs.1)
  have HF := Lib.hid (fail_any R (l, er) w HR.out)
  have hle : (valB l).2 ≤ l.length := valB_len hs.1
  have HNO := Lib.hid (rdNum_no (s := (l, er)))
  have HYES := Lib.hid (rdNum_yes (s := (l, er)))
  have HD := Lib.hid (H2.out.drop (k := (valB l).2) hle)
  have hsl := slice_from (w := w) (a := a) (n := l.length) (c := c) (k := (valB l).2) hle
  obtain ⟨ua, un, uc, hu⟩ : ∃ ua un uc, sliced a (valB l).2 l.length c 1 = .slice ua un uc := ⟨_, _, _, rfl⟩
  have HLS := Lib.hid (low_sliced (l := (valB l).2) (h := l.length) (m := c) (s := 1) HL.out)
  rw [hu] at HD hsl HLS
  have HSL := Lib.hid hsl
  clear h1 h2 hs hc hu hsl
  simp only [] at HNO HYES
  by_cases h0 : (valB l).2 = 0
  · have HN := Lib.hid (HNO.out h0)
    have hz : (((valB l).2 : Int) == 0) = true := by rw [beq_iff_eq]; omega
    clear HNO HYES HD HSL h0 hle
    generalize valB l = p at *
    go_enter Try.func34, Try.ntmps34
    go_wp2_with (first
      | (go_at_call 11; (with_reducible refine HV.out.mono ?_); rintro e w5 ⟨rfl, e5⟩; subst w5)
      | (go_at_call 40; (with_reducible refine HF.out.mono ?_); rintro e w5 ⟨rfl, hr5, hg5⟩))
    go_ret
    exact ⟨by rw [HN.out]; rfl, by rw [HN.out]; exact hr5, hg5⟩
  · have HN := Lib.hid (HYES.out h0)
    have hz : (((valB l).2 : Int) == 0) = false := by rw [beq_eq_false_iff_ne]; omega
    clear HNO HYES h0
    generalize valB l = p at *
    have hpl : (p.2 : Int) ≤ l.length := by omega
    go_enter Try.func34, Try.ntmps34
    have hsl := HSL.out
    go_wp2_with (first
      | (go_at_call 11; (with_reducible refine HV.out.mono ?_); rintro e w5 ⟨rfl, e5⟩; subst w5)
      | (go_at_call 40; (with_reducible refine HF.out.mono ?_); rintro e w5 ⟨rfl, hr5, hg5⟩))
    go_ret
    exact ⟨by rw [HN.out]; rfl, by rw [HN.out]; exact Lib.hid ⟨_, rb_set0 H1.out _, HD.out.kept HLS.out HRL.out (gb_set (gb_refl _ _) 0 _), HLS.out⟩, Lib.hid (gb_set (gb_refl _ _) 0 _)⟩
theorem rdUp_no {most : Nat} {s : RS} (h : most < (rdNum s).1) : rdUp most s = (0, ([], true)) := by unfold rdUp; rw [if_pos h]
theorem rdUp_yes {most : Nat} {s : RS} (h : ¬ most < (rdNum s).1) : rdUp most s = rdNum s := by unfold rdUp; rw [if_neg h]
set_option maxHeartbeats 4000000 in
theorem upto_any (most R : Nat) (s : RS) (w : World) (h : RB w R s) (hs : ROk s) (hm : most < 1000000) :
    Calls Try.prog 33 #[.pointer (some ⟨R, 0, none⟩), .int .i64 most] w fun e w' => e = .returned (.int .i64 ((rdUp most s).1 : Nat)) ∧ Hid (RB w' R (rdUp most s).2) ∧ Hid (w.grownBy w' (some R)) := by
  have HN := Lib.hid (number_any R s w h hs)
  have HNO := Lib.hid (rdUp_no (most := most) (s := s))
  have HYES := Lib.hid (rdUp_yes (most := most) (s := s))
  have hlt := rdNum_lt s
  have HF := Lib.hid (fun W hW => fail_any R (rdNum s).2 W hW)
  clear h hs
  by_cases h0 : most < (rdNum s).1
  · have HR := Lib.hid (HNO.out h0)
    have d1 : decide (((rdNum s).1 : Int) > most) = true := decide_eq_true (by omega)
    have d2 : decide ((most : Int) < (rdNum s).1) = true := decide_eq_true (by omega)
    clear HNO HYES
    generalize rdNum s = p at *
    go_enter Try.func33, Try.ntmps33
    go_wp2_with (first
      | (go_at_call 34; (with_reducible refine HN.out.mono ?_); rintro e w5 ⟨rfl, hr5, hg5⟩; have HF5 := Lib.hid (HF.out w5 hr5.out))
      | (go_at_call 40; (with_reducible refine HF5.out.mono ?_); rintro e w6 ⟨rfl, hr6, hg6⟩))
    go_ret
    exact ⟨by rw [HR.out]; rfl, by rw [HR.out]; exact hr6, Lib.hid (gb_trans hg5.out hg6.out)⟩
  · have HR := Lib.hid (HYES.out h0)
    have d1 : decide (((rdNum s).1 : Int) > most) = false := decide_eq_false (by omega)
    have d2 : decide ((most : Int) < (rdNum s).1) = false := decide_eq_false (by omega)
    have d3 : decide (most < (rdNum s).1) = false := decide_eq_false h0
    have hb : (rdNum s).1 < 1000000 := by omega
    clear HNO HYES h0 hlt
    generalize rdNum s = p at *
    go_enter Try.func33, Try.ntmps33
    go_wp2_with (first
      | (go_at_call 34; (with_reducible refine HN.out.mono ?_); rintro e w5 ⟨rfl, hr5, hg5⟩; have HF5 := Lib.hid (HF.out w5 hr5.out))
      | (go_at_call 40; (with_reducible refine HF5.out.mono ?_); rintro e w6 ⟨rfl, hr6, hg6⟩))
    go_ret
    exact ⟨by rw [HR.out]; rfl, by rw [HR.out]; exact hr5, hg5⟩
end Go.Proofs.Ytmhjabodhgacnaa
