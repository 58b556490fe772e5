/- Texts that a proof rests on: Contracts of pattern's parser: what it sees, skips, expects; how it fails. | Contracts of pattern's parser: skip, expect. | Contract of pattern.unescape. | Contract of pattern's parser: one byte. -/
import Derived.Test.YtkpfpegjapddfaaGreatDoorK10
import Derived.Test.YtkpfpegjapddfaaGreatDoorK09
import Derived.Shelf.RegionOpen
import Derived.RegionTactic
import Derived.Deep.CutRange
import Derived.Deep.RegionHeld3
import Derived.Deep.QuietTactic
import Derived.BigQuiet
set_option maxRecDepth 20000
namespace Go.Proofs.YtkpfpegjapddfaaGreatDoor
open Go.RowKit

/-- What is left of a text. -/
def rest (s : ByteArray) (i : Nat) : List UInt8 := s.data.toList.drop i
theorem rest_cons {s : ByteArray} {i : Nat} (h : i < s.size) : rest s i = s[i] :: rest s (i + 1) := by
  unfold rest
  rw [List.drop_eq_getElem_cons (by simpa using h)]
  congr 1
theorem rest_end {s : ByteArray} {i : Nat} (h : s.size ≤ i) : rest s i = [] := List.drop_eq_nil_of_le (by simpa using h)
theorem rest_length (s : ByteArray) (i : Nat) : (rest s i).length = s.size - i := by unfold rest; simp
/-- Is b the next byte? -/
def seesB : List UInt8 → Nat → Bool
  | [], _ => false
  | c :: _, b => decide (c.toNat = b)
/-- Block bp holds the parser: its text, how far it has read, how many brackets are open, its map. -/
def PB (w : World) (bp : Nat) (s : ByteArray) (i o : Nat) (m : Value) : Prop := w.heap[bp]? = some (.cells #[.string s, .int .i64 i, .int .i64 o, m] 99 (0, 0))
theorem PB.lt {w : World} {bp : Nat} {s : ByteArray} {i o : Nat} {m : Value} (h : PB w bp s i o m) : bp < w.heap.size := lt_of_block h
theorem PB.cells {w : World} {bp : Nat} {s : ByteArray} {i o : Nat} {m : Value} (h : PB w bp s i o m) : w.cell? ⟨bp, 0, none⟩ = some (.string s) ∧ w.cell? ⟨bp, 1, none⟩ = some (.int .i64 i) ∧ w.cell? ⟨bp, 2, none⟩ = some (.int .i64 o) ∧ w.cell? ⟨bp, 3, none⟩ = some m := by
  unfold PB at h
  simp [World.cell?, h]
theorem PB.free {w : World} {bp : Nat} {s : ByteArray} {i o : Nat} {m : Value} (h : PB w bp s i o m) (j : Nat) : w.frozen? ⟨bp, j, none⟩ = false := by
  unfold PB at h
  simp [World.frozen?, h]
theorem PB.to {w : World} {bp : Nat} {s : ByteArray} {i o : Nat} {m : Value} (h : PB w bp s i o m) (j : Nat) {x : Int} (hx : x = j) : PB (w.setCell ⟨bp, 1, none⟩ (.int .i64 x)) bp s j o m := by
  subst hx
  have := setCell_block (i := 1) h (.int .i64 j)
  unfold PB; simpa using this
theorem PB.opened {w : World} {bp : Nat} {s : ByteArray} {i o : Nat} {m : Value} (h : PB w bp s i o m) (j : Nat) {x : Int} (hx : x = j) : PB (w.setCell ⟨bp, 2, none⟩ (.int .i64 x)) bp s i j m := by
  subst hx
  have := setCell_block (i := 2) h (.int .i64 j)
  unfold PB; simpa using this
theorem PB.alloc {w : World} {bp : Nat} {s : ByteArray} {i o : Nat} {m : Value} (h : PB w bp s i o m) (ob : Obj) : PB (w.alloc ob) bp s i o m := (((Below.refl _ w).alloc (Nat.le_refl _) ob).block bp h.lt).trans h
theorem PB.below {w w' : World} {bp : Nat} {s : ByteArray} {i o : Nat} {m : Value} (h : PB w bp s i o m) (hb : Below w.heap.size w w') : PB w' bp s i o m := (hb.block bp h.lt).trans h
theorem go_refl (w : World) (x : Option Nat) : w.grownBy w x := ⟨rfl, rfl, rfl, Nat.le_refl _, fun _ _ _ => rfl⟩
theorem go_set (w : World) (bp j : Nat) (v : Value) : w.grownBy (w.setCell ⟨bp, j, none⟩ v) (some bp) := by
  have h : Below bp w (w.setCell ⟨bp, j, none⟩ v) := (Below.refl _ _).setCell (p := ⟨bp, j, none⟩) (Nat.le_refl _) v
  exact ⟨h.os, h.tape, h.output, h.size, fun k _ hne => Below.heap_setCell _ _ _ _ (by simpa using fun e => hne (by rw [e]))⟩
theorem pk_keep {w5 W W' : World} {bp : Nat} {s : ByteArray} {i o : Nat} {m : Value} (hbl : bp < w5.heap.size) (h : W.cell? ⟨bp, 0, none⟩ = some (.string s) ∧ W.cell? ⟨bp, 1, none⟩ = some (.int .i64 i) ∧ W.cell? ⟨bp, 2, none⟩ = some (.int .i64 o) ∧ W.cell? ⟨bp, 3, none⟩ = some m ∧ Below w5.heap.size w5 W) (hb : Below W.heap.size W W') : W'.cell? ⟨bp, 0, none⟩ = some (.string s) ∧ W'.cell? ⟨bp, 1, none⟩ = some (.int .i64 i) ∧ W'.cell? ⟨bp, 2, none⟩ = some (.int .i64 o) ∧ W'.cell? ⟨bp, 3, none⟩ = some m ∧ Below w5.heap.size w5 W' := by
  obtain ⟨h0, h1, h2, h3, h8⟩ := h
  have lb : bp < W.heap.size := Nat.lt_of_lt_of_le hbl h8.size
  have cb (o : Nat) := hb.cell (p := ⟨bp, o, none⟩) lb
  exact ⟨(cb _).trans h0, (cb _).trans h1, (cb _).trans h2, (cb _).trans h3, h8.trans (hb.mono h8.size)⟩
theorem pk_below {w5 W : World} {bp : Nat} {s : ByteArray} {i o : Nat} {m : Value} (h : W.cell? ⟨bp, 0, none⟩ = some (.string s) ∧ W.cell? ⟨bp, 1, none⟩ = some (.int .i64 i) ∧ W.cell? ⟨bp, 2, none⟩ = some (.int .i64 o) ∧ W.cell? ⟨bp, 3, none⟩ = some m ∧ Below w5.heap.size w5 W) : Below w5.heap.size w5 W := h.2.2.2.2
theorem pk_start {w5 W : World} {bp : Nat} {s : ByteArray} {i o : Nat} {m : Value} (hx : PB w5 bp s i o m) (hb : Below w5.heap.size w5 W) : W.cell? ⟨bp, 0, none⟩ = some (.string s) ∧ W.cell? ⟨bp, 1, none⟩ = some (.int .i64 i) ∧ W.cell? ⟨bp, 2, none⟩ = some (.int .i64 o) ∧ W.cell? ⟨bp, 3, none⟩ = some m ∧ Below w5.heap.size w5 W := by
  obtain ⟨c0, c1, c2, c3⟩ := (hx.below hb).cells
  exact ⟨c0, c1, c2, c3, hb⟩
/-- The panic of a problem at a place. -/
def probV (i : Nat) : List PanicEntry := [{ v := .iface 96 (.agg #[.int .i64 i]), recovered := false }]
theorem fail_any (i : Nat) (w : World) : Calls Tryz.prog 80 #[.int .i64 i] w fun e w' => e = .panicked (probV i) ∧ w' = w := by
  go_enter Tryz.func80, Tryz.ntmps80
  go_wp2
  simp [bodyPost, probV]
theorem below_drewN (w : World) (n : Nat) : Below w.heap.size w (w.drewN n) := ⟨rfl, rfl, rfl, Nat.le_refl _, fun _ _ => rfl⟩
theorem PB.drewN {w : World} {bp : Nat} {s : ByteArray} {i o : Nat} {m : Value} (h : PB w bp s i o m) (n : Nat) : PB (w.drewN n) bp s i o m := h
theorem atEnd_any (s : ByteArray) (i o : Nat) (m : Value) (bp : Nat) (w : World) (h : PB w bp s i o m) (hi : i ≤ s.size) (v : Bool) (hv : (rest s i).isEmpty = v) : Calls Tryz.prog 79 #[.pointer (some ⟨bp, 0, none⟩)] w fun e w' => e = .returned (.bool v) ∧ ∃ n, w' = w.drewN n := by
  obtain ⟨p0, p1, p2, p3⟩ := h.cells
  have he : ((i : Int) == (s.size : Int)) = v := by
    rw [← hv]
    rcases Nat.lt_or_ge i s.size with h | h
    · rw [rest_cons h]
      simp
      omega
    · rw [rest_end h]
      simp
      omega
  go_enter Tryz.func79, Tryz.ntmps79
  go_wp2
  go_quiet (fail)
  go_wp2
  go_ret
  exact ⟨rfl, _, rfl⟩
set_option maxHeartbeats 1000000 in
theorem sees_any (s : ByteArray) (b i o : Nat) (m : Value) (bp : Nat) (w : World) (h : PB w bp s i o m) (hi : i ≤ s.size) (v : Bool) (hv : seesB (rest s i) b = v) : Calls Tryz.prog 106 #[.pointer (some ⟨bp, 0, none⟩), .int .u8 b] w fun e w' => e = .returned (.bool v) ∧ ∃ n, w' = w.drewN n := by
  obtain ⟨p0, p1, p2, p3⟩ := h.cells
  rcases Nat.lt_or_ge i s.size with hlt | hge
  · have j0 : (0 : Int) ≤ (i : Int) := by omega
    have j1 : (i : Int) < (s.size : Int) := by omega
    have hr := rest_cons hlt
    have hs : ((s[i].toNat : Int) == (b : Int)) = v := by
      rw [← hv, hr]
      simp only [seesB]
      rw [Bool.eq_iff_iff]
      simp
      omega
    go_enter Tryz.func106, Tryz.ntmps106
    go_wp2_with fail
    go_quiet (first | (go_at_call 79; refine Calls.quiet_of (atEnd_any s i o m bp _ (PB.drewN h _) hi false (by rw [hr]; rfl))))
    go_wp2
    go_ret
    exact ⟨rfl, _, rfl⟩
  · go_enter Tryz.func106, Tryz.ntmps106
    go_wp2_with fail
    go_quiet (first | (go_at_call 79; refine Calls.quiet_of (atEnd_any s i o m bp _ (PB.drewN h _) hi true (by rw [rest_end hge]; rfl))))
    go_wp2
    go_ret
    exact ⟨by rw [← hv, rest_end hge]; rfl, _, rfl⟩
end Go.Proofs.YtkpfpegjapddfaaGreatDoor
set_option maxRecDepth 20000
namespace Go.Proofs.YtkpfpegjapddfaaGreatDoor
open Go.RowKit

/-- Behind a step of the parser: only its own block may have changed of what there was. -/
def PS (w w' : World) (bp : Nat) (s : ByteArray) (i o : Nat) (m : Value) : Prop := w.grownBy w' (some bp) ∧ PB w' bp s i o m
theorem go_drewN (w : World) (n : Nat) (x : Option Nat) : w.grownBy (w.drewN n) x := ⟨rfl, rfl, rfl, Nat.le_refl _, fun _ _ _ => rfl⟩
theorem seesB_lt {s : ByteArray} {i b : Nat} (h : seesB (rest s i) b = true) : i < s.size := by
  rcases Nat.lt_or_ge i s.size with h1 | h1
  · exact h1
  · rw [rest_end h1] at h; simp [seesB] at h
theorem skip_any (s : ByteArray) (b i o : Nat) (m : Value) (bp : Nat) (w : World) (h : PB w bp s i o m) (hi : i ≤ s.size) (hs : s.size ≤ 65536) (v : Bool) (hv : seesB (rest s i) b = v) : Calls Tryz.prog 97 #[.pointer (some ⟨bp, 0, none⟩), .int .u8 b] w fun e w' => e = .returned (.bool v) ∧ PS w w' bp s (bif v then i + 1 else i) o m := by
  have e1 : IntKind.i64.wrap ((i : Int) + 1) = (i : Int) + 1 := by rw [IntKind.wrap_i64]; omega
  cases v
  · go_enter Tryz.func97, Tryz.ntmps97
    go_wp2_with (go_at_call 106; refine (sees_any s b i o m bp _ h hi false hv).mono ?_; rintro e w1 ⟨rfl, n, rfl⟩)
    go_ret
    exact ⟨rfl, go_drewN _ _ _, h⟩
  · obtain ⟨p0, p1, p2, p3⟩ := h.cells
    have f1 := h.free 1
    go_enter Tryz.func97, Tryz.ntmps97
    go_wp2_with (go_at_call 106; refine (sees_any s b i o m bp _ h hi true hv).mono ?_; rintro e w1 ⟨rfl, n, rfl⟩)
    go_ret
    exact ⟨rfl, (go_drewN w n _).trans (go_set _ bp 1 _), PB.to (PB.drewN h n) (i + 1) (by omega)⟩
theorem expect_yes (s : ByteArray) (b i o : Nat) (m : Value) (bp : Nat) (w : World) (h : PB w bp s i o m) (hi : i ≤ s.size) (hs : s.size ≤ 65536) (hv : seesB (rest s i) b = true) : Calls Tryz.prog 124 #[.pointer (some ⟨bp, 0, none⟩), .int .u8 b] w fun e w' => e = .returned (.tuple #[]) ∧ PS w w' bp s (i + 1) o m := by
  go_enter Tryz.func124, Tryz.ntmps124
  go_wp2_with (go_at_call 97; refine (skip_any s b i o m bp _ h hi hs true hv).mono ?_; rintro e w1 ⟨rfl, h1⟩)
  simp [bodyPost, results, Tryz.results124]
  exact h1
theorem expect_no (s : ByteArray) (b i o : Nat) (m : Value) (bp : Nat) (w : World) (h : PB w bp s i o m) (hi : i ≤ s.size) (hs : s.size ≤ 65536) (hv : seesB (rest s i) b = false) : Calls Tryz.prog 124 #[.pointer (some ⟨bp, 0, none⟩), .int .u8 b] w fun e w' => e = .panicked (probV i) ∧ PS w w' bp s i o m := by
  go_enter Tryz.func124, Tryz.ntmps124
  go_wp2_with (first
    | (go_at_call 97; refine (skip_any s b i o m bp _ h hi hs false hv).mono ?_; rintro e w1 ⟨rfl, h1⟩; obtain ⟨p0, p1, p2, p3⟩ := h1.2.cells)
    | (go_at_call 80; refine (fail_any i _).mono ?_; rintro e w2 ⟨rfl, rfl⟩))
  exact ⟨rfl, rfl, h1⟩
end Go.Proofs.YtkpfpegjapddfaaGreatDoor
set_option maxRecDepth 20000
namespace Go.Proofs.YtkpfpegjapddfaaGreatDoor
open Go.RowKit

def hexL : List UInt8 := [48, 49, 50, 51, 52, 53, 54, 55, 56, 57, 97, 98, 99, 100, 101, 102]
/-- The byte of an escape, and how long it is; 0: it is none. -/
def unesc : List UInt8 → Nat × Nat
  | _ :: c :: r =>
    if c = 110 then (10, 2) else if c = 116 then (9, 2) else if c = 114 then (13, 2)
    else if escB c.toNat = true then (c.toNat, 2) else if c = 120 then
      match r with
      | h :: l :: _ => if 0 ≤ Lib.indexByte hexL h ∧ 0 ≤ Lib.indexByte hexL l then ((Lib.indexByte hexL h).toNat * 16 + (Lib.indexByte hexL l).toNat, 4) else (0, 0)
      | _ => (0, 0)
    else (0, 0)
  | _ => (0, 0)
theorem indexByte_lt (l : List UInt8) (c : UInt8) : Lib.indexByte l c < l.length ∧ -1 ≤ Lib.indexByte l c := by
  induction l with
  | nil => simp [Lib.indexByte]
  | cons b l ih =>
    unfold Lib.indexByte
    split
    · simp
    · split <;> rename_i h <;> simp at h ⊢ <;> omega
theorem hex_join : ∀ x y : Fin 16, IntKind.u8.wrap (bits BinOp.or IntKind.i64 ((x.val : Int) * 16) (y.val : Int)) = ((x.val * 16 + y.val : Nat) : Int) := by decide +kernel
theorem escB_x : escB 120 = false := by decide
set_option maxHeartbeats 1000000 in
theorem unescape_any (s : ByteArray) (w : World) : Calls Tryz.prog 127 #[.string s] w fun e w' => e = .returned (.tuple #[.int .u8 (unesc s.data.toList).1, .int .i64 (unesc s.data.toList).2]) ∧ ∃ n, w' = w.drewN n := by
  rcases e : s.data.toList with _ | ⟨a, _ | ⟨c, r⟩⟩
  · have h0 : s.size = 0 := by have := congrArg List.length e; simpa using this
    go_enter Tryz.func127, Tryz.ntmps127
    go_wp2
    go_ret2
    exact ⟨rfl, 0, rfl⟩
  · have h0 : s.size = 1 := by have := congrArg List.length e; simpa using this
    go_enter Tryz.func127, Tryz.ntmps127
    go_wp2
    go_ret2
    exact ⟨rfl, 0, rfl⟩
  · have h0 : s.size = r.length + 2 := by have := congrArg List.length e; simpa using this
    have h1 : 1 < s.size := by omega
    have hc : s[1] = c := by
      have : s.data.toList[1]'(by simp [e]) = c := by simp [e]
      simp only [Array.getElem_toList] at this
      exact this
    by_cases c1 : c = 110
    · subst c1
      go_enter Tryz.func127, Tryz.ntmps127
      go_wp2_with (first | (go_at_call 54; refine (indexByte_any _ _ _).mono ?_; rintro e w' ⟨rfl, rfl⟩) | (go_at_call 72; refine (escapable_any _ _).mono ?_; rintro e w' ⟨rfl, rfl⟩))
      go_ret2
      exact ⟨rfl, 0, rfl⟩
    by_cases c2 : c = 116
    · subst c2
      go_enter Tryz.func127, Tryz.ntmps127
      go_wp2_with (first | (go_at_call 54; refine (indexByte_any _ _ _).mono ?_; rintro e w' ⟨rfl, rfl⟩) | (go_at_call 72; refine (escapable_any _ _).mono ?_; rintro e w' ⟨rfl, rfl⟩))
      go_ret2
      exact ⟨rfl, 0, rfl⟩
    by_cases c3 : c = 114
    · subst c3
      go_enter Tryz.func127, Tryz.ntmps127
      go_wp2_with (first | (go_at_call 54; refine (indexByte_any _ _ _).mono ?_; rintro e w' ⟨rfl, rfl⟩) | (go_at_call 72; refine (escapable_any _ _).mono ?_; rintro e w' ⟨rfl, rfl⟩))
      go_ret2
      exact ⟨rfl, 0, rfl⟩
    have hx : Lib.indexByte [110, 116, 114] c = -1 := by simp [Lib.indexByte, Ne.symm c1, Ne.symm c2, Ne.symm c3]
    by_cases c4 : escB c.toNat = true
    · go_enter Tryz.func127, Tryz.ntmps127
      go_wp2_with (first | (go_at_call 54; refine (indexByte_any _ _ _).mono ?_; rintro e w' ⟨rfl, rfl⟩) | (go_at_call 72; refine (escapable_any _ _).mono ?_; rintro e w' ⟨rfl, rfl⟩))
      go_ret2
      exact ⟨by simp [unesc, c1, c2, c3, c4], 0, rfl⟩
    · rw [Bool.not_eq_true] at c4
      by_cases c5 : c = 120
      · subst c5
        rcases r with _ | ⟨h, _ | ⟨l, r⟩⟩
        · go_enter Tryz.func127, Tryz.ntmps127
          go_wp2_with (first | (go_at_call 54; refine (indexByte_any _ _ _).mono ?_; rintro e w' ⟨rfl, rfl⟩) | (go_at_call 72; refine (escapable_any _ _).mono ?_; rintro e w' ⟨rfl, rfl⟩))
          go_ret2
          exact ⟨by simp [unesc, escB, printB, letB], 0, rfl⟩
        · go_enter Tryz.func127, Tryz.ntmps127
          go_wp2_with (first | (go_at_call 54; refine (indexByte_any _ _ _).mono ?_; rintro e w' ⟨rfl, rfl⟩) | (go_at_call 72; refine (escapable_any _ _).mono ?_; rintro e w' ⟨rfl, rfl⟩))
          go_ret2
          exact ⟨by simp [unesc, escB, printB, letB], 0, rfl⟩
        · have h2 : 2 < s.size := by rw [h0]; simp
          have h3 : 3 < s.size := by rw [h0]; simp
          have hh : s[2] = h := by
            have : s.data.toList[2]'(by simp [e]) = h := by simp [e]
            simp only [Array.getElem_toList] at this
            exact this
          have hl : s[3] = l := by
            have : s.data.toList[3]'(by simp [e]) = l := by simp [e]
            simp only [Array.getElem_toList] at this
            exact this
          have k4 : (4 : Int) ≤ (s.size : Int) := by rw [h0]; simp; omega
          obtain ⟨x, hx1⟩ : ∃ x, Lib.indexByte [48, 49, 50, 51, 52, 53, 54, 55, 56, 57, 97, 98, 99, 100, 101, 102] h = x := ⟨_, rfl⟩
          obtain ⟨y, hy1⟩ : ∃ y, Lib.indexByte [48, 49, 50, 51, 52, 53, 54, 55, 56, 57, 97, 98, 99, 100, 101, 102] l = y := ⟨_, rfl⟩
          have x1 := indexByte_lt [48, 49, 50, 51, 52, 53, 54, 55, 56, 57, 97, 98, 99, 100, 101, 102] h
          have x2 := indexByte_lt [48, 49, 50, 51, 52, 53, 54, 55, 56, 57, 97, 98, 99, 100, 101, 102] l
          rw [hx1] at x1
          rw [hy1] at x2
          simp only [List.length_cons, List.length_nil] at x1 x2
          by_cases d1 : 0 ≤ x
          · obtain ⟨x, rfl⟩ : ∃ n : Nat, x = n := ⟨x.toNat, by omega⟩
            by_cases d2 : 0 ≤ y
            · obtain ⟨y, rfl⟩ : ∃ n : Nat, y = n := ⟨y.toNat, by omega⟩
              have hj := hex_join ⟨x, by omega⟩ ⟨y, by omega⟩
              simp only at hj
              go_enter Tryz.func127, Tryz.ntmps127
              go_wp2_with (first | (go_at_call 54; refine (indexByte_any _ _ _).mono ?_; rintro e w' ⟨rfl, rfl⟩) | (go_at_call 72; refine (escapable_any _ _).mono ?_; rintro e w' ⟨rfl, rfl⟩))
              go_quiet (first | (go_at_call 54; refine Calls.quiet_of_same (indexByte_any _ _ _)))
              go_wp2
              go_ret2
              exact ⟨by simp [unesc, hexL, hx1, hy1, escB_x], _, rfl⟩
            · have d3 : y < 0 := by omega
              go_enter Tryz.func127, Tryz.ntmps127
              go_wp2_with (first | (go_at_call 54; refine (indexByte_any _ _ _).mono ?_; rintro e w' ⟨rfl, rfl⟩) | (go_at_call 72; refine (escapable_any _ _).mono ?_; rintro e w' ⟨rfl, rfl⟩))
              go_quiet (first | (go_at_call 54; refine Calls.quiet_of_same (indexByte_any _ _ _)))
              go_wp2
              go_ret2
              exact ⟨by simp [unesc, hexL, hx1, hy1, escB_x]; rw [if_neg (by omega)]; simp, _, rfl⟩
          · have d3 : x < 0 := by omega
            go_enter Tryz.func127, Tryz.ntmps127
            go_wp2_with (first | (go_at_call 54; refine (indexByte_any _ _ _).mono ?_; rintro e w' ⟨rfl, rfl⟩) | (go_at_call 72; refine (escapable_any _ _).mono ?_; rintro e w' ⟨rfl, rfl⟩))
            go_quiet (first | (go_at_call 54; refine Calls.quiet_of_same (indexByte_any _ _ _)))
            go_wp2
            go_ret2
            exact ⟨by simp [unesc, hexL, hx1, hy1, escB_x]; rw [if_neg (by omega)]; simp, _, rfl⟩
      · have c6 : ((c.toNat : Int) != 120) = true := by
          have h : c.toNat ≠ 120 := fun h => c5 (UInt8.toNat_inj.1 h)
          simp
          omega
        go_enter Tryz.func127, Tryz.ntmps127
        go_wp2_with (first | (go_at_call 54; refine (indexByte_any _ _ _).mono ?_; rintro e w' ⟨rfl, rfl⟩) | (go_at_call 72; refine (escapable_any _ _).mono ?_; rintro e w' ⟨rfl, rfl⟩))
        go_ret2
        exact ⟨by simp [unesc, c1, c2, c3, c4, c5], 0, rfl⟩
end Go.Proofs.YtkpfpegjapddfaaGreatDoor
set_option maxRecDepth 20000
namespace Go.Proofs.YtkpfpegjapddfaaGreatDoor
open Go.RowKit

/-- A byte that stands for itself, or an escape: the byte, and how long it is. -/
def oneB (P : Nat → Bool) : List UInt8 → Option (Nat × Nat)
  | [] => none
  | c :: r => if c = 92 then (if (unesc (c :: r)).2 = 0 then none else some (unesc (c :: r))) else if P c.toNat = true then some (c.toNat, 1) else none
theorem PB.quiet {w w' : World} {bp : Nat} {s : ByteArray} {i o : Nat} {m : Value} (h : PB w bp s i o m) (hq : ∃ n, w' = w.drewN n) : PB w' bp s i o m := by
  obtain ⟨n, rfl⟩ := hq
  exact h
theorem go_of_quiet {w w' : World} {x : Option Nat} (hq : ∃ n, w' = w.drewN n) : w.grownBy w' x := by
  obtain ⟨n, rfl⟩ := hq
  exact go_drewN w n x
theorem quiet_trans {a b c : World} (h : ∃ n, b = a.drewN n) (k : ∃ n, c = b.drewN n) : ∃ n, c = a.drewN n := by
  obtain ⟨n, rfl⟩ := h
  obtain ⟨m, rfl⟩ := k
  exact ⟨n + m, by rw [World.drewN_drewN]⟩
theorem rest_extract (s : ByteArray) (i : Nat) : (s.extract i s.size).data.toList = rest s i := by
  unfold rest
  simp
  rw [List.take_of_length_le]
  simp
theorem unesc_len (l : List UInt8) : (unesc l).2 ≤ l.length := by
  rcases l with _ | ⟨a, _ | ⟨c, _ | ⟨x, _ | ⟨y, r⟩⟩⟩⟩
  all_goals simp only [unesc]
  all_goals repeat' split
  all_goals simp
theorem unesc_byte (l : List UInt8) : (unesc l).1 < 256 := by
  rcases l with _ | ⟨a, _ | ⟨c, _ | ⟨x, _ | ⟨y, r⟩⟩⟩⟩
  all_goals simp only [unesc]
  all_goals repeat' split
  all_goals simp
  all_goals first
    | (have h3 := c.toNat_lt; omega)
    | (have h1 := indexByte_lt hexL x; have h2 := indexByte_lt hexL y; simp [hexL] at h1 h2 ⊢; omega)
theorem oneB_len {P : Nat → Bool} {l : List UInt8} {b n : Nat} (h : oneB P l = some (b, n)) : 0 < n ∧ n ≤ l.length ∧ b < 256 := by
  rcases l with _ | ⟨c, r⟩
  · simp [oneB] at h
  · simp only [oneB] at h
    split at h
    · split at h
      · simp at h
      · rename_i h0
        have h1 := unesc_len (c :: r)
        have h2 := unesc_byte (c :: r)
        have h3 := Option.some.inj h
        rw [h3] at h0 h1 h2
        exact ⟨by simp at h0; omega, h1, h2⟩
    · split at h
      · simp at h
        obtain ⟨rfl, rfl⟩ := h
        exact ⟨by omega, by simp, c.toNat_lt⟩
      · simp at h
theorem unescape_rest (s : ByteArray) (i : Nat) (w : World) (b n : Nat) (hu : unesc (rest s i) = (b, n)) : Calls Tryz.prog 127 #[.string (s.extract i s.size)] w fun e w' => e = .returned (.tuple #[.int .u8 b, .int .i64 n]) ∧ ∃ n, w' = w.drewN n := by
  have h := unescape_any (s.extract i s.size) w
  rw [rest_extract, hu] at h
  exact h
theorem plain_is (b : Nat) (v : Bool) (h : plainB b = v) (w : World) : Calls Tryz.prog 29 #[.int .u8 b] w fun e w' => e = .returned (.bool v) ∧ w' = w := by
  have := plain_any b w
  rw [h] at this
  exact this
set_option maxHeartbeats 2000000 in
theorem oneByte_plain (s : ByteArray) (i o : Nat) (m : Value) (bp : Nat) (w : World) (h : PB w bp s i o m) (hi : i ≤ s.size) (hs : s.size ≤ 65536) (b n : Nat) (hv : oneB plainB (rest s i) = some (b, n)) :
    Calls Tryz.prog 121 #[.pointer (some ⟨bp, 0, none⟩), .func (.func 29) #[] #[]] w fun e w' => e = .returned (.int .u8 b) ∧ PS w w' bp s (i + n) o m := by
  have hlen := oneB_len hv
  rw [rest_length] at hlen
  rcases Nat.lt_or_ge i s.size with hlt | hge
  · have hr := rest_cons hlt
    obtain ⟨p0, p1, p2, p3⟩ := h.cells
    have f1 := h.free 1
    have j0 : (0 : Int) ≤ (i : Int) := by omega
    have j1 : (i : Int) < (s.size : Int) := by omega
    have j2 : (i : Int) ≤ (s.size : Int) := by omega
    have e1 : IntKind.i64.wrap ((i : Int) + 1) = (i : Int) + 1 := by rw [IntKind.wrap_i64]; omega
    by_cases c : s[i] = 92
    · have hse : seesB (rest s i) 92 = true := by rw [hr, c]; rfl
      have hu : unesc (rest s i) = (b, n) := by
        rw [hr] at hv ⊢
        simp only [oneB, c, if_true] at hv ⊢
        split at hv
        · simp at hv
        · exact Option.some.inj hv
      have n0 : ((n : Int) == 0) = false := by rw [beq_eq_false_iff_ne]; omega
      have e2 : IntKind.i64.wrap ((i : Int) + (n : Int)) = (i : Int) + (n : Int) := by rw [IntKind.wrap_i64]; omega
      go_enter Tryz.func121, Tryz.ntmps121
      go_wp2_with (first | (go_at_call 106; refine (sees_any s 92 i o m bp _ h hi true hse).mono ?_; rintro e w1 ⟨rfl, hq⟩; have h1 := h.quiet hq; obtain ⟨q0, q1, q2, q3⟩ := h1.cells; have g1 := h1.free 1))
      go_quiet (first | (go_at_call 127; refine Calls.quiet_of (unescape_rest s i _ b n hu)))
      go_wp2
      go_ret
      exact ⟨rfl, ((go_of_quiet hq).trans (go_drewN w1 nq _)).trans (go_set _ bp 1 _), PB.to (h1.drewN nq) (i + n) (by omega)⟩
    · have hse : seesB (rest s i) 92 = false := by
        rw [hr]
        simp only [seesB, decide_eq_false_iff_not]
        exact fun h => c (UInt8.toNat_inj.1 h)
      have hp : plainB s[i].toNat = true ∧ b = s[i].toNat ∧ n = 1 := by
        rw [hr] at hv
        simp only [oneB, c, if_false] at hv
        split at hv
        · rename_i h
          simp at hv
          exact ⟨h, hv.1.symm, hv.2.symm⟩
        · simp at hv
      obtain ⟨hp, rfl, rfl⟩ := hp
      have he : (rest s i).isEmpty = false := by rw [hr]; rfl
      have e2 : IntKind.i64.wrap ((i : Int) + 1 - 1) = (i : Int) := by rw [IntKind.wrap_i64]; omega
      go_enter Tryz.func121, Tryz.ntmps121
      go_wp2_with (first | (go_at_call 106; refine (sees_any s 92 i o m bp _ h hi false hse).mono ?_; rintro e w1 ⟨rfl, hq⟩; have h1 := h.quiet hq; obtain ⟨q0, q1, q2, q3⟩ := h1.cells; have g1 := h1.free 1))
      go_quiet (first
        | (go_at_call 79; refine Calls.quiet_of (atEnd_any s i o m bp _ (PB.drewN h1 _) hi false he))
        | (go_at_call 29; refine Calls.quiet_of_same (plain_is s[i].toNat true hp _)))
      have h2 := h1.drewN nq
      clear h1 q0 q1 q2 q3 g1
      obtain ⟨q0, q1, q2, q3⟩ := h2.cells
      have g1 := h2.free 1
      obtain ⟨w2, hw2⟩ : ∃ x, x = w1.drewN nq := ⟨_, rfl⟩
      rw [← hw2] at h2 q0 q1 q2 q3 g1 ⊢
      have hq2 : w.grownBy w2 (some bp) := by rw [hw2]; exact (go_of_quiet hq).trans (go_drewN w1 nq _)
      clear hw2 hq
      have h3 := PB.to h2 (i + 1) (x := (i : Int) + 1) (by omega)
      obtain ⟨k0, k1, k2, k3⟩ := h3.cells
      go_wp2
      go_quiet (fail)
      go_wp2
      go_ret
      exact ⟨rfl, (hq2.trans (go_set _ bp 1 _)).trans (go_drewN _ _ _), h3.drewN _⟩
  · rw [rest_end hge] at hv; simp [oneB] at hv
set_option maxHeartbeats 2000000 in
theorem oneByte_plain_no (s : ByteArray) (i o : Nat) (m : Value) (bp : Nat) (w : World) (h : PB w bp s i o m) (hi : i ≤ s.size) (hv : oneB plainB (rest s i) = none) :
    Calls Tryz.prog 121 #[.pointer (some ⟨bp, 0, none⟩), .func (.func 29) #[] #[]] w fun e w' => e = .panicked (probV i) ∧ PS w w' bp s i o m := by
  rcases Nat.lt_or_ge i s.size with hlt | hge
  · have hr := rest_cons hlt
    have j0 : (0 : Int) ≤ (i : Int) := by omega
    have j1 : (i : Int) < (s.size : Int) := by omega
    have j2 : (i : Int) ≤ (s.size : Int) := by omega
    by_cases c : s[i] = 92
    · have hse : seesB (rest s i) 92 = true := by rw [hr, c]; rfl
      obtain ⟨b, hu⟩ : ∃ b, unesc (rest s i) = (b, 0) := by
        rw [hr] at hv ⊢
        simp only [oneB, c, if_true] at hv ⊢
        split at hv
        · rename_i h0
          exact ⟨_, Prod.ext rfl h0⟩
        · simp at hv
      go_enter Tryz.func121, Tryz.ntmps121
      go_wp2_with (first | (go_at_call 106; refine (sees_any s 92 i o m bp _ h hi true hse).mono ?_; rintro e w1 ⟨rfl, hq⟩; have h1 := h.quiet hq; obtain ⟨q0, q1, q2, q3⟩ := h1.cells))
      go_quiet (first | (go_at_call 127; refine Calls.quiet_of (unescape_rest s i _ b 0 hu)))
      go_wp2_with (first | (go_at_call 80; refine (fail_any i _).mono ?_; rintro e w2 ⟨rfl, rfl⟩))
      exact ⟨rfl, rfl, (go_of_quiet hq).trans (go_drewN w1 nq _), h1.drewN nq⟩
    · have hse : seesB (rest s i) 92 = false := by
        rw [hr]
        simp only [seesB, decide_eq_false_iff_not]
        exact fun h => c (UInt8.toNat_inj.1 h)
      have hp : plainB s[i].toNat = false := by
        rw [hr] at hv
        simp only [oneB, c, if_false] at hv
        split at hv
        · simp at hv
        · rename_i h
          simpa using h
      have he : (rest s i).isEmpty = false := by rw [hr]; rfl
      go_enter Tryz.func121, Tryz.ntmps121
      go_wp2_with (first | (go_at_call 106; refine (sees_any s 92 i o m bp _ h hi false hse).mono ?_; rintro e w1 ⟨rfl, hq⟩; have h1 := h.quiet hq; obtain ⟨q0, q1, q2, q3⟩ := h1.cells))
      go_quiet (first
        | (go_at_call 79; refine Calls.quiet_of (atEnd_any s i o m bp _ (PB.drewN h1 _) hi false he))
        | (go_at_call 29; refine Calls.quiet_of_same (plain_is s[i].toNat false hp _)))
      go_wp2_with (first | (go_at_call 80; refine (fail_any i _).mono ?_; rintro e w2 ⟨rfl, rfl⟩))
      exact ⟨rfl, rfl, (go_of_quiet hq).trans (go_drewN w1 nq _), h1.drewN nq⟩
  · have hse : seesB (rest s i) 92 = false := by rw [rest_end hge]; rfl
    have he : (rest s i).isEmpty = true := by rw [rest_end hge]; rfl
    go_enter Tryz.func121, Tryz.ntmps121
    go_wp2_with (first | (go_at_call 106; refine (sees_any s 92 i o m bp _ h hi false hse).mono ?_; rintro e w1 ⟨rfl, hq⟩; have h1 := h.quiet hq; obtain ⟨q0, q1, q2, q3⟩ := h1.cells))
    go_quiet (first
      | (go_at_call 79; refine Calls.quiet_of (atEnd_any s i o m bp _ (PB.drewN h1 _) hi true he)))
    go_wp2_with (first | (go_at_call 80; refine (fail_any i _).mono ?_; rintro e w2 ⟨rfl, rfl⟩))
    exact ⟨rfl, rfl, (go_of_quiet hq).trans (go_drewN w1 nq _), h1.drewN nq⟩
theorem plainInClass_is (b : Nat) (v : Bool) (h : plainC b = v) (w : World) : Calls Tryz.prog 89 #[.int .u8 b] w fun e w' => e = .returned (.bool v) ∧ w' = w := by
  have := plainInClass_any b w
  rw [h] at this
  exact this
set_option maxHeartbeats 2000000 in
theorem oneByte_plainInClass (s : ByteArray) (i o : Nat) (m : Value) (bp : Nat) (w : World) (h : PB w bp s i o m) (hi : i ≤ s.size) (hs : s.size ≤ 65536) (b n : Nat) (hv : oneB plainC (rest s i) = some (b, n)) :
    Calls Tryz.prog 121 #[.pointer (some ⟨bp, 0, none⟩), .func (.func 89) #[] #[]] w fun e w' => e = .returned (.int .u8 b) ∧ PS w w' bp s (i + n) o m := by
  have hlen := oneB_len hv
  rw [rest_length] at hlen
  rcases Nat.lt_or_ge i s.size with hlt | hge
  · have hr := rest_cons hlt
    obtain ⟨p0, p1, p2, p3⟩ := h.cells
    have f1 := h.free 1
    have j0 : (0 : Int) ≤ (i : Int) := by omega
    have j1 : (i : Int) < (s.size : Int) := by omega
    have j2 : (i : Int) ≤ (s.size : Int) := by omega
    have e1 : IntKind.i64.wrap ((i : Int) + 1) = (i : Int) + 1 := by rw [IntKind.wrap_i64]; omega
    by_cases c : s[i] = 92
    · have hse : seesB (rest s i) 92 = true := by rw [hr, c]; rfl
      have hu : unesc (rest s i) = (b, n) := by
        rw [hr] at hv ⊢
        simp only [oneB, c, if_true] at hv ⊢
        split at hv
        · simp at hv
        · exact Option.some.inj hv
      have n0 : ((n : Int) == 0) = false := by rw [beq_eq_false_iff_ne]; omega
      have e2 : IntKind.i64.wrap ((i : Int) + (n : Int)) = (i : Int) + (n : Int) := by rw [IntKind.wrap_i64]; omega
      go_enter Tryz.func121, Tryz.ntmps121
      go_wp2_with (first | (go_at_call 106; refine (sees_any s 92 i o m bp _ h hi true hse).mono ?_; rintro e w1 ⟨rfl, hq⟩; have h1 := h.quiet hq; obtain ⟨q0, q1, q2, q3⟩ := h1.cells; have g1 := h1.free 1))
      go_quiet (first | (go_at_call 127; refine Calls.quiet_of (unescape_rest s i _ b n hu)))
      go_wp2
      go_ret
      exact ⟨rfl, ((go_of_quiet hq).trans (go_drewN w1 nq _)).trans (go_set _ bp 1 _), PB.to (h1.drewN nq) (i + n) (by omega)⟩
    · have hse : seesB (rest s i) 92 = false := by
        rw [hr]
        simp only [seesB, decide_eq_false_iff_not]
        exact fun h => c (UInt8.toNat_inj.1 h)
      have hp : plainC s[i].toNat = true ∧ b = s[i].toNat ∧ n = 1 := by
        rw [hr] at hv
        simp only [oneB, c, if_false] at hv
        split at hv
        · rename_i h
          simp at hv
          exact ⟨h, hv.1.symm, hv.2.symm⟩
        · simp at hv
      obtain ⟨hp, rfl, rfl⟩ := hp
      have he : (rest s i).isEmpty = false := by rw [hr]; rfl
      have e2 : IntKind.i64.wrap ((i : Int) + 1 - 1) = (i : Int) := by rw [IntKind.wrap_i64]; omega
      go_enter Tryz.func121, Tryz.ntmps121
      go_wp2_with (first | (go_at_call 106; refine (sees_any s 92 i o m bp _ h hi false hse).mono ?_; rintro e w1 ⟨rfl, hq⟩; have h1 := h.quiet hq; obtain ⟨q0, q1, q2, q3⟩ := h1.cells; have g1 := h1.free 1))
      go_quiet (first
        | (go_at_call 79; refine Calls.quiet_of (atEnd_any s i o m bp _ (PB.drewN h1 _) hi false he))
        | (go_at_call 89; refine Calls.quiet_of_same (plainInClass_is s[i].toNat true hp _)))
      have h2 := h1.drewN nq
      clear h1 q0 q1 q2 q3 g1
      obtain ⟨q0, q1, q2, q3⟩ := h2.cells
      have g1 := h2.free 1
      obtain ⟨w2, hw2⟩ : ∃ x, x = w1.drewN nq := ⟨_, rfl⟩
      rw [← hw2] at h2 q0 q1 q2 q3 g1 ⊢
      have hq2 : w.grownBy w2 (some bp) := by rw [hw2]; exact (go_of_quiet hq).trans (go_drewN w1 nq _)
      clear hw2 hq
      have h3 := PB.to h2 (i + 1) (x := (i : Int) + 1) (by omega)
      obtain ⟨k0, k1, k2, k3⟩ := h3.cells
      go_wp2
      go_quiet (fail)
      go_wp2
      go_ret
      exact ⟨rfl, (hq2.trans (go_set _ bp 1 _)).trans (go_drewN _ _ _), h3.drewN _⟩
  · rw [rest_end hge] at hv; simp [oneB] at hv
set_option maxHeartbeats 2000000 in
theorem oneByte_plainInClass_no (s : ByteArray) (i o : Nat) (m : Value) (bp : Nat) (w : World) (h : PB w bp s i o m) (hi : i ≤ s.size) (hv : oneB plainC (rest s i) = none) :
    Calls Tryz.prog 121 #[.pointer (some ⟨bp, 0, none⟩), .func (.func 89) #[] #[]] w fun e w' => e = .panicked (probV i) ∧ PS w w' bp s i o m := by
  rcases Nat.lt_or_ge i s.size with hlt | hge
  · have hr := rest_cons hlt
    have j0 : (0 : Int) ≤ (i : Int) := by omega
    have j1 : (i : Int) < (s.size : Int) := by omega
    have j2 : (i : Int) ≤ (s.size : Int) := by omega
    by_cases c : s[i] = 92
    · have hse : seesB (rest s i) 92 = true := by rw [hr, c]; rfl
      obtain ⟨b, hu⟩ : ∃ b, unesc (rest s i) = (b, 0) := by
        rw [hr] at hv ⊢
        simp only [oneB, c, if_true] at hv ⊢
        split at hv
        · rename_i h0
          exact ⟨_, Prod.ext rfl h0⟩
        · simp at hv
      go_enter Tryz.func121, Tryz.ntmps121
      go_wp2_with (first | (go_at_call 106; refine (sees_any s 92 i o m bp _ h hi true hse).mono ?_; rintro e w1 ⟨rfl, hq⟩; have h1 := h.quiet hq; obtain ⟨q0, q1, q2, q3⟩ := h1.cells))
      go_quiet (first | (go_at_call 127; refine Calls.quiet_of (unescape_rest s i _ b 0 hu)))
      go_wp2_with (first | (go_at_call 80; refine (fail_any i _).mono ?_; rintro e w2 ⟨rfl, rfl⟩))
      exact ⟨rfl, rfl, (go_of_quiet hq).trans (go_drewN w1 nq _), h1.drewN nq⟩
    · have hse : seesB (rest s i) 92 = false := by
        rw [hr]
        simp only [seesB, decide_eq_false_iff_not]
        exact fun h => c (UInt8.toNat_inj.1 h)
      have hp : plainC s[i].toNat = false := by
        rw [hr] at hv
        simp only [oneB, c, if_false] at hv
        split at hv
        · simp at hv
        · rename_i h
          simpa using h
      have he : (rest s i).isEmpty = false := by rw [hr]; rfl
      go_enter Tryz.func121, Tryz.ntmps121
      go_wp2_with (first | (go_at_call 106; refine (sees_any s 92 i o m bp _ h hi false hse).mono ?_; rintro e w1 ⟨rfl, hq⟩; have h1 := h.quiet hq; obtain ⟨q0, q1, q2, q3⟩ := h1.cells))
      go_quiet (first
        | (go_at_call 79; refine Calls.quiet_of (atEnd_any s i o m bp _ (PB.drewN h1 _) hi false he))
        | (go_at_call 89; refine Calls.quiet_of_same (plainInClass_is s[i].toNat false hp _)))
      go_wp2_with (first | (go_at_call 80; refine (fail_any i _).mono ?_; rintro e w2 ⟨rfl, rfl⟩))
      exact ⟨rfl, rfl, (go_of_quiet hq).trans (go_drewN w1 nq _), h1.drewN nq⟩
  · have hse : seesB (rest s i) 92 = false := by rw [rest_end hge]; rfl
    have he : (rest s i).isEmpty = true := by rw [rest_end hge]; rfl
    go_enter Tryz.func121, Tryz.ntmps121
    go_wp2_with (first | (go_at_call 106; refine (sees_any s 92 i o m bp _ h hi false hse).mono ?_; rintro e w1 ⟨rfl, hq⟩; have h1 := h.quiet hq; obtain ⟨q0, q1, q2, q3⟩ := h1.cells))
    go_quiet (first
      | (go_at_call 79; refine Calls.quiet_of (atEnd_any s i o m bp _ (PB.drewN h1 _) hi true he)))
    go_wp2_with (first | (go_at_call 80; refine (fail_any i _).mono ?_; rintro e w2 ⟨rfl, rfl⟩))
    exact ⟨rfl, rfl, (go_of_quiet hq).trans (go_drewN w1 nq _), h1.drewN nq⟩
end Go.Proofs.YtkpfpegjapddfaaGreatDoor
