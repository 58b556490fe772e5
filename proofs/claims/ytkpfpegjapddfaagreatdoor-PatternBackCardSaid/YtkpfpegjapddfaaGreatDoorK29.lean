/- Texts that a proof rests on: Where an error is: within the text. | What PatternWraps calls. | PatternWraps answers true. -/
import Derived.Test.YtkpfpegjapddfaaGreatDoorK28
import Derived.Test.YtkpfpegjapddfaaGreatDoorK25
import Derived.Test.YtkpfpegjapddfaaGreatDoorK30
import Derived.Test.YtkpfpegjapddfaaGreatDoorK17
set_option maxRecDepth 20000
namespace Go.Proofs.YtkpfpegjapddfaaGreatDoor
open Go.RowKit

def Bd {α : Type} (f : List UInt8 → Except Nat α) : Prop := ∀ l d, f l = .error d → d ≤ l.length
theorem upper_bd : Bd upperR := by
  intro l d h
  unfold upperR at h
  by_cases h1 : seesB l 125 = true
  · rw [if_pos h1] at h; simp at h
  · rw [if_neg h1] at h
    cases hn : numB l with
    | none => rw [hn] at h; simp at h; omega
    | some x => rw [hn] at h; simp at h
theorem count_bd : Bd countR := by
  intro l d h
  unfold countR at h
  cases hn : numB l with
  | none => rw [hn] at h; simp at h; omega
  | some x =>
    obtain ⟨a, k⟩ := x
    have hk := numB_le hn
    rw [hn] at h
    simp only at h
    by_cases h1 : seesB (l.drop k) 44 = true
    · have hkl := sees_lt h1
      rw [if_pos h1] at h
      cases hu : upperR (l.drop (k + 1)) with
      | error e =>
        rw [hu] at h
        have := upper_bd _ _ hu
        rw [List.length_drop] at this
        simp at h
        omega
      | ok y =>
        obtain ⟨b, k2⟩ := y
        have := upperR_le hu
        rw [List.length_drop] at this
        rw [hu] at h
        simp only at h
        by_cases h2 : b ≠ -1 ∧ b < a
        · rw [if_pos h2] at h; simp at h; omega
        · rw [if_neg h2] at h
          by_cases h3 : seesB (l.drop (k + 1 + k2)) 125 = true
          · rw [if_pos h3] at h; simp at h
          · rw [if_neg h3] at h; simp at h; omega
    · rw [if_neg h1] at h
      by_cases h3 : seesB (l.drop k) 125 = true
      · rw [if_pos h3] at h; simp at h
      · rw [if_neg h3] at h; simp at h; omega
theorem rep_bd : Bd repR := by
  intro l d h
  cases l with
  | nil => simp [repR] at h
  | cons c t =>
    have h' : (if c = 123 then (match countR t with | .ok (p, n) => Except.ok (some p, n + 1) | .error d => .error (d + 1)) else match opB c.toNat with | some p => .ok (some p, 1) | none => .ok (none, 0)) = Except.error d := h
    by_cases hc : c = 123
    · rw [if_pos hc] at h'
      cases hk : countR t with
      | error e =>
        rw [hk] at h'
        have := count_bd _ _ hk
        simp at h' ⊢
        omega
      | ok y => rw [hk] at h'; simp at h'
    · rw [if_neg hc] at h'
      cases ho : opB c.toNat with
      | none => rw [ho] at h'; simp at h'
      | some y => rw [ho] at h'; simp at h'
theorem elem_bd : Bd elemR := by
  intro l d h
  unfold elemR at h
  cases ho : oneB plainC l with
  | none => rw [ho] at h; simp at h; omega
  | some x =>
    obtain ⟨lo, m⟩ := x
    rw [ho] at h
    simp only at h
    by_cases h1 : seesB (l.drop m) 45 = true
    · have hm := sees_lt h1
      rw [if_pos h1] at h
      cases ho2 : oneB plainC (l.drop (m + 1)) with
      | none => rw [ho2] at h; simp at h; omega
      | some y =>
        obtain ⟨hi, m2⟩ := y
        rw [ho2] at h
        simp only at h
        by_cases h2 : hi < lo
        · rw [if_pos h2] at h; simp at h; omega
        · rw [if_neg h2] at h; simp at h
    · rw [if_neg h1] at h
      simp at h
theorem classR_bd : ∀ (f : Nat) (l : List UInt8) (a : BitVec 256) (d : Nat), classR f l a = .error d → d ≤ l.length
  | 0, l, a, d, h => by simp [classR] at h; omega
  | f + 1, l, a, d, h => by
    unfold classR at h
    by_cases h1 : seesB l 93 = true
    · rw [if_pos h1] at h; simp at h
    · rw [if_neg h1] at h
      cases he : elemR l with
      | error e =>
        rw [he] at h
        have := elem_bd _ _ he
        simp at h
        omega
      | ok x =>
        obtain ⟨p, n⟩ := x
        have hn := elemR_le he
        rw [he] at h
        simp only at h
        cases hc : classR f (l.drop n) (a ||| ofP (rangeP p.1 p.2)) with
        | error e =>
          rw [hc] at h
          have := classR_bd f _ _ e hc
          rw [List.length_drop] at this
          simp at h
          omega
        | ok y => rw [hc] at h; simp at h
theorem cls_bd : Bd clsR := by
  intro l d h
  unfold clsR at h
  by_cases h1 : seesB l 94 = true
  · have hl := sees_len h1
    rw [if_pos h1] at h
    cases hc : classR (l.length + 1) (l.drop 1) 0 with
    | error e =>
      rw [hc] at h
      have := classR_bd _ _ _ e hc
      rw [List.length_drop] at this
      simp at h
      omega
    | ok y => rw [hc] at h; simp at h
  · rw [if_neg h1] at h
    exact classR_bd _ _ _ d h
theorem leaf_bd : Bd leafR := by
  intro l d h
  unfold leafR at h
  by_cases h1 : seesB l 91 = true
  · have hl := sees_len h1
    rw [if_pos h1] at h
    cases hc : clsR (l.drop 1) with
    | error e =>
      rw [hc] at h
      have := cls_bd _ e hc
      rw [List.length_drop] at this
      simp at h
      omega
    | ok y => rw [hc] at h; simp at h
  · rw [if_neg h1] at h
    by_cases h2 : seesB l 46 = true
    · rw [if_pos h2] at h; simp at h
    · rw [if_neg h2] at h
      cases ho : oneB plainB l with
      | none => rw [ho] at h; simp at h; omega
      | some x => rw [ho] at h; simp at h
theorem shiftR_bad {α : Type} {d e : Nat} {r : Except Nat (α × Nat)} (h : shiftR d r = .error e) : ∃ k, r = .error k ∧ e = d + k := by
  rcases r with k | ⟨v, n⟩
  · simp [shiftR] at h
    exact ⟨k, rfl, h.symm⟩
  · simp [shiftR] at h
theorem repLoop_bd : ∀ (f : Nat) (l : List UInt8) (p : Pat) (d : Nat), repLoop f l p = .error d → d ≤ l.length
  | 0, l, p, d, h => by simp [repLoop] at h
  | f + 1, l, p, d, h => by
    unfold repLoop at h
    cases hr : repR l with
    | error e =>
      rw [hr] at h
      have := rep_bd _ e hr
      simp at h
      omega
    | ok y =>
      obtain ⟨o, m⟩ := y
      rw [hr] at h
      have hm := (repR_le hr).1
      cases o with
      | none => simp at h
      | some ab =>
        obtain ⟨a, b⟩ := ab
        simp only at h
        obtain ⟨k, hk, rfl⟩ := shiftR_bad h
        have := repLoop_bd f _ _ k hk
        rw [List.length_drop] at this
        omega
theorem item_bd {A : List UInt8 → Except Nat (Pat × Nat)} (ha : Bd A) (hle : Le A) : Bd (itemR A) := by
  intro l d h
  have hn := notsN_le l
  unfold itemR at h
  cases hA : A (l.drop (notsN l)) with
  | error e =>
    rw [hA] at h
    have := ha _ e hA
    rw [List.length_drop] at this
    simp at h
    omega
  | ok x =>
    obtain ⟨p0, n0⟩ := x
    have h2 := (hle _ _ _ hA).2
    rw [List.length_drop] at h2
    rw [hA] at h
    simp only at h
    cases hr : shiftR (notsN l + n0) (repLoop (l.length + 1) (l.drop (notsN l + n0)) p0) with
    | ok y => rw [hr] at h; simp [mapR] at h
    | error e =>
      rw [hr] at h
      simp [mapR] at h
      obtain ⟨k, hk, he⟩ := shiftR_bad hr
      have := repLoop_bd _ _ _ k hk
      rw [List.length_drop] at this
      omega
theorem seqLoop_bd {A : List UInt8 → Except Nat (Pat × Nat)} (ha : Bd A) (hle : Le0 A) : ∀ (f : Nat) (l : List UInt8) (d : Nat), seqLoop A f l = .error d → d ≤ l.length
  | 0, l, d, h => by simp [seqLoop] at h
  | f + 1, l, d, h => by
    unfold seqLoop at h
    by_cases hb : stopB l = true
    · rw [if_pos hb] at h; simp at h
    · rw [if_neg hb] at h
      cases hA : A l with
      | error e =>
        rw [hA] at h
        have := ha _ e hA
        simp at h
        omega
      | ok x =>
        obtain ⟨p0, n0⟩ := x
        have h2 := hle _ _ _ hA
        rw [hA] at h
        simp only at h
        cases hr : seqLoop A f (l.drop n0) with
        | error e =>
          rw [hr] at h
          have := seqLoop_bd ha hle f _ e hr
          rw [List.length_drop] at this
          simp at h
          omega
        | ok y => rw [hr] at h; simp at h
theorem seq_bd {A : List UInt8 → Except Nat (Pat × Nat)} (ha : Bd A) (hle : Le0 A) : Bd (seqR A) := by
  intro l d h
  unfold seqR at h
  cases hs : seqLoop A (l.length + 1) l with
  | error e =>
    rw [hs] at h
    have := seqLoop_bd ha hle _ _ e hs
    simp [jr] at h
    omega
  | ok y => rw [hs] at h; simp [jr] at h
theorem rowLoop_bd {A : List UInt8 → Except Nat (Pat × Nat)} (ha : Bd A) (hle : Le0 A) (sep : Nat) : ∀ (f : Nat) (l : List UInt8) (d : Nat), rowLoop A sep f l = .error d → d ≤ l.length
  | 0, l, d, h => by simp [rowLoop] at h
  | f + 1, l, d, h => by
    unfold rowLoop at h
    by_cases hb : seesB l sep = true
    · have hl := sees_len hb
      rw [if_pos hb] at h
      cases hA : A (l.drop 1) with
      | error e =>
        rw [hA] at h
        have := ha _ e hA
        rw [List.length_drop] at this
        simp at h
        omega
      | ok x =>
        obtain ⟨p0, n0⟩ := x
        have h2 := hle _ _ _ hA
        rw [List.length_drop] at h2
        rw [hA] at h
        simp only at h
        cases hr : rowLoop A sep f (l.drop (n0 + 1)) with
        | error e =>
          rw [hr] at h
          have := rowLoop_bd ha hle sep f _ e hr
          rw [List.length_drop] at this
          simp at h
          omega
        | ok y => rw [hr] at h; simp at h
    · rw [if_neg hb] at h; simp at h
theorem row_bd {A : List UInt8 → Except Nat (Pat × Nat)} (ha : Bd A) (hle : Le0 A) (op : Int) (sep : Nat) : Bd (rowR A op sep) := by
  intro l d h
  unfold rowR at h
  cases hA : A l with
  | error e =>
    rw [hA] at h
    have := ha _ e hA
    simp at h
    omega
  | ok x =>
    obtain ⟨p0, n0⟩ := x
    have h2 := hle _ _ _ hA
    rw [hA] at h
    simp only at h
    cases hr : rowLoop A sep (l.length + 1) (l.drop n0) with
    | error e =>
      rw [hr] at h
      have := rowLoop_bd ha hle sep _ _ e hr
      rw [List.length_drop] at this
      simp at h
      omega
    | ok y => rw [hr] at h; simp at h
theorem pat_bd {A : List UInt8 → Except Nat (Pat × Nat)} (ha : Bd A) (hle : Le A) : Bd (patR A) :=
  row_bd (row_bd (seq_bd (item_bd ha hle) (fun _ _ _ h => (itemR_le hle h).2)) (fun _ _ _ h => seqR_le (fun _ _ _ h => itemR_le hle h) h) _ _) (con_le hle) _ _
theorem atom_bd : ∀ d, Bd (atomR d)
  | 0 => by
    intro l d h
    unfold atomR at h
    by_cases hs : seesB l 40 = true
    · rw [if_pos hs] at h; simp at h; omega
    · rw [if_neg hs] at h
      exact leaf_bd _ _ h
  | n + 1 => by
    intro l d h
    unfold atomR at h
    by_cases hs : seesB l 40 = true
    · have hl := sees_len hs
      rw [if_pos hs] at h
      unfold groupR at h
      cases hP : patR (atomR n) (l.drop 1) with
      | error e =>
        rw [hP] at h
        have := pat_bd (atom_bd n) (atomR_le n) _ e hP
        rw [List.length_drop] at this
        simp at h
        omega
      | ok x =>
        obtain ⟨q, k⟩ := x
        have h2 := patR_le (atomR_le n) hP
        rw [List.length_drop] at h2
        rw [hP] at h
        simp only at h
        by_cases h1 : seesB (l.drop (k + 1)) 41 = true
        · rw [if_pos h1] at h; simp at h
        · rw [if_neg h1] at h; simp at h; omega
    · rw [if_neg hs] at h
      exact leaf_bd _ _ h
theorem whole_bd {s : ByteArray} {d : Nat} (h : wholeR s = .error d) : d ≤ s.size := by
  have hr : rest s 0 = s.data.toList := rfl
  have hsl := str_len s
  unfold wholeR at h
  rw [hr] at h
  cases hp : patR (atomR 32) s.data.toList with
  | error e =>
    rw [hp] at h
    have := pat_bd (atom_bd 32) (atomR_le 32) _ e hp
    simp at h
    omega
  | ok x =>
    obtain ⟨q, n⟩ := x
    have h2 := patR_le (atomR_le 32) hp
    rw [hp] at h
    simp only at h
    by_cases h1 : n = s.size
    · rw [if_pos h1] at h
      by_cases h3 : q.fit 1 = true
      · rw [if_pos h3] at h; simp at h
      · rw [if_neg h3] at h; simp at h; omega
    · rw [if_neg h1] at h; simp at h; omega
end Go.Proofs.YtkpfpegjapddfaaGreatDoor
set_option maxRecDepth 20000
namespace Go.Proofs.YtkpfpegjapddfaaGreatDoor
open Go.RowKit

/-- A text that is read: its pattern and 0, or nothing and 30. -/
def Par (s : ByteArray) (p : Pat) (k : Int) : Prop := (wholeR s = .ok p ∧ k = 0) ∨ (∃ d, wholeR s = .error d ∧ k = 30 ∧ p = Pat.mk 0 0 0 0 [])
theorem parse_par {s : ByteArray} {p : Pat} {k : Int} (h : Par s p k) (hs : s.size ≤ 20000) (w : World) (hL : Lay w) :
    Calls Tryz.prog 14 #[.string s] w fun e w' => ∃ a c at', e = .returned (.tuple #[(.agg #[.int .i64 p.op, .int .u64 (wd p.set 0), .int .u64 (wd p.set 1), .int .u64 (wd p.set 2), .int .u64 (wd p.set 3), .int .i64 p.lo, .int .i64 p.hi, .slice a p.kids.length c]), .int .i64 k, .int .i64 at']) ∧ Kids w' p.kids (.slice a p.kids.length c) ∧ Below w.heap.size w w' := by
  rcases h with ⟨h, rfl⟩ | ⟨d, h, rfl, rfl⟩
  · refine (parse_ok s p h hs w hL).mono ?_
    rintro e w' ⟨a, c, rfl, hk, hb⟩
    exact ⟨a, c, 0, rfl, hk, hb⟩
  · refine (parse_bad s d h hs w hL).mono ?_
    rintro e w' ⟨rfl, hb⟩
    refine ⟨none, 0, d, ?_, .nil _ _ _, hb⟩
    simp only [Pat.op, Pat.set, Pat.lo, Pat.hi, Pat.kids, List.length_nil]
    rw [show wd (0 : BitVec 256) 0 = 0 from wd_none 0, show wd (0 : BitVec 256) 1 = 0 from wd_none 1, show wd (0 : BitVec 256) 2 = 0 from wd_none 2, show wd (0 : BitVec 256) 3 = 0 from wd_none 3]
    rfl
theorem par_of (s : ByteArray) : (∃ p, wholeR s = .ok p ∧ Par s p 0) ∨ (∃ d, wholeR s = .error d ∧ Par s (Pat.mk 0 0 0 0 []) 30) := by
  cases h : wholeR s with
  | ok p => exact .inl ⟨p, rfl, .inl ⟨h, rfl⟩⟩
  | error d => exact .inr ⟨d, rfl, .inr ⟨d, h, rfl, rfl⟩⟩
theorem whole_small {s : ByteArray} {p : Pat} (hs : s.size ≤ 20000) (h : wholeR s = .ok p) : p.size < 99999 := pat_sz hs (whole_ok h).1
theorem same_true {p q : Pat} (h : p.same q = true) (hsz : p.size < 99999) (a b : Option Addr) (c d : Nat) (w : World) (hk : Kids w p.kids (.slice a p.kids.length c)) (hj : Kids w q.kids (.slice b q.kids.length d)) :
    Calls Tryz.prog 15 #[(.agg #[.int .i64 p.op, .int .u64 (wd p.set 0), .int .u64 (wd p.set 1), .int .u64 (wd p.set 2), .int .u64 (wd p.set 3), .int .i64 p.lo, .int .i64 p.hi, .slice a p.kids.length c]), (.agg #[.int .i64 q.op, .int .u64 (wd q.set 0), .int .u64 (wd q.set 1), .int .u64 (wd q.set 2), .int .u64 (wd q.set 3), .int .i64 q.lo, .int .i64 q.hi, .slice b q.kids.length d])] w fun e w' => e = .returned (.bool true) ∧ Below w.heap.size w w' := by
  refine (rsame_any 100000 p q _ _ w (by omega) (by omega) hk hj).mono ?_
  rintro e w' ⟨rfl, hb⟩
  rw [h]
  exact ⟨rfl, hb⟩
theorem same_many {p n m : Pat} (h : p.same (Pat.mk 2 0#256 0 0 [n, m]) = true) (hsz : p.size < 99999) (a b : Option Addr) (c d : Nat) (w : World) (hk : Kids w p.kids (.slice a p.kids.length c)) (hj : Kids w [n, m] (.slice b 2 d)) :
    Calls Tryz.prog 15 #[(.agg #[.int .i64 p.op, .int .u64 (wd p.set 0), .int .u64 (wd p.set 1), .int .u64 (wd p.set 2), .int .u64 (wd p.set 3), .int .i64 p.lo, .int .i64 p.hi, .slice a p.kids.length c]), (.agg #[.int .i64 (Pat.mk 2 0#256 0 0 [n, m]).op, .int .u64 (wd (Pat.mk 2 0#256 0 0 [n, m]).set 0), .int .u64 (wd (Pat.mk 2 0#256 0 0 [n, m]).set 1), .int .u64 (wd (Pat.mk 2 0#256 0 0 [n, m]).set 2), .int .u64 (wd (Pat.mk 2 0#256 0 0 [n, m]).set 3), .int .i64 (Pat.mk 2 0#256 0 0 [n, m]).lo, .int .i64 (Pat.mk 2 0#256 0 0 [n, m]).hi, .slice b 2 d])] w fun e w' => e = .returned (.bool true) ∧ Below w.heap.size w w' := same_true h hsz a b c d w hk hj
end Go.Proofs.YtkpfpegjapddfaaGreatDoor
set_option maxRecDepth 20000
namespace Go.Proofs.YtkpfpegjapddfaaGreatDoor
open Go.RowKit

set_option maxHeartbeats 4000000 in
theorem wraps_big (s t : ByteArray) (h : 100 < s.size ∨ 100 < t.size) (w : World) (hL : Lay w) : Calls Tryz.prog 6 #[.string s, .string t] w fun e w' => e = .returned (.bool true) ∧ Below w.heap.size w w' := by
  by_cases h1 : 100 < s.size
  · clear h
    go_enter Tryz.func6, Tryz.ntmps6
    go_wp2_with (go_at_call 7; (with_reducible refine (awake_any _ hL).mono ?_); rintro e w1 ⟨rfl, hb1⟩)
    go_ret
    exact ⟨rfl, hb1⟩
  · have h2 : 100 < t.size := by omega
    clear h
    go_enter Tryz.func6, Tryz.ntmps6
    go_wp2_with (go_at_call 7; (with_reducible refine (awake_any _ hL).mono ?_); rintro e w1 ⟨rfl, hb1⟩)
    go_ret
    exact ⟨rfl, hb1⟩
set_option maxHeartbeats 4000000 in
theorem wraps_bad (s t : ByteArray) (hs : s.size ≤ 100) (ht : t.size ≤ 100) (d : Nat) (h : wholeR s = .error d) (m : Pat) (k : Int) (hm : Par t m k) (w : World) (hL : Lay w) : Calls Tryz.prog 6 #[.string s, .string t] w fun e w' => e = .returned (.bool true) ∧ Below w.heap.size w w' := by
  have hd := whole_bd h
  have hd0 : (d : Int) ≤ (s.size : Int) := by omega
  have hs2 : s.size ≤ 20000 := by omega
  have ht2 : t.size ≤ 20000 := by omega
  have HS := Lib.hid h
  have HM := Lib.hid hm
  clear h hm
  go_enter Tryz.func6, Tryz.ntmps6
  go_wp2_with (first
    | (go_at_call 7; (with_reducible refine (awake_any _ hL).mono ?_); rintro e w1 ⟨rfl, hb1⟩; have hL1 := hL.below hb1)
    | (go_at_call 14; (with_reducible refine (parse_bad s d HS.out hs2 _ hL1).mono ?_); rintro e w2 ⟨rfl, hb2⟩; have hL2 := hL1.below hb2)
    | (go_at_call 14; (with_reducible refine (parse_par HM.out ht2 _ (hL2.below (below_one _ _))).mono ?_); rintro e w3 ⟨a3, c3, at3, rfl, hk3, hb3⟩)
    | fail)
  go_ret
  exact ⟨rfl, below_step (below_step (below_step (below_step hb1 hb2) (below_one _ _)) hb3) (below_one _ _)⟩
end Go.Proofs.YtkpfpegjapddfaaGreatDoor
