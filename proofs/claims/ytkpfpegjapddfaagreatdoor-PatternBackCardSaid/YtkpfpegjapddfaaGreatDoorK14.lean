/- Texts that a proof rests on: Contract of strconv.Atoi at digits. | Contract of strconv.Atoi at digits, and at none. | Contract of pattern's parser: a number. -/
import Derived.Test.YtkpfpegjapddfaaGreatDoorK11
import Derived.Test.YtkpfpegjapddfaaGreatDoorK02
import Derived.Lib.ConvBytes
import Derived.StillTailTactics
set_option maxRecDepth 20000
namespace Go.Proofs.YtkpfpegjapddfaaGreatDoor
open Go.RowKit

/-- The number that digits are. -/
def numL (l : List UInt8) : Nat := l.foldl (fun n c => n * 10 + (c.toNat - 48)) 0
def digitsL (l : List UInt8) : Prop := ∀ c ∈ l, 48 ≤ c.toNat ∧ c.toNat ≤ 57
theorem numL_snoc (l : List UInt8) (c : UInt8) : numL (l ++ [c]) = numL l * 10 + (c.toNat - 48) := by simp [numL]
theorem foldl_lt : ∀ (l : List UInt8) (a : Nat), digitsL l → l.foldl (fun n c => n * 10 + (c.toNat - 48)) a < (a + 1) * 10 ^ l.length
  | [], a, _ => by simp
  | c :: l, a, h => by
    have h1 := foldl_lt l (a * 10 + (c.toNat - 48)) fun x hx => h x (by simp [hx])
    have h2 := h c (by simp)
    simp only [List.foldl_cons, List.length_cons]
    refine Nat.lt_of_lt_of_le h1 ?_
    rw [Nat.pow_succ, Nat.mul_comm (10 ^ l.length) 10, ← Nat.mul_assoc]
    exact Nat.mul_le_mul_right _ (by omega)
theorem numL_lt (l : List UInt8) (h : digitsL l) : numL l < 10 ^ l.length := by
  have := foldl_lt l 0 h
  simpa [numL] using this
theorem below_bytes (w : World) (e : TypeId) (s : ByteArray) : Below w.heap.size w (Lib.bytesWorld w e s) := ⟨rfl, rfl, rfl, by rw [Lib.bytesWorld_size]; omega, fun k hk => Lib.bytesWorld_at_old w e s k hk⟩
set_option maxHeartbeats 1000000 in
theorem iatoi_short (s : ByteArray) (w : World) (hd : digitsL s.data.toList) (h0 : 0 < s.size) (h1 : s.size < 19) :
    Calls Tryz.prog 132 #[.string s] w fun e w' => e = .returned (.tuple #[.int .i64 (numL s.data.toList), .nilIface]) ∧ Below w.heap.size w w' := by
  have c0 : 48 ≤ s[0].toNat ∧ s[0].toNat ≤ 57 := hd _ (by
    have : s[0] = s.data.toList[0]'(by simpa using h0) := by simp only [Array.getElem_toList]; rfl
    rw [this]; exact List.getElem_mem _)
  have n45 : ((s[0].toNat : Int) == 45) = false := by rw [beq_eq_false_iff_ne]; omega
  have n43 : ((s[0].toNat : Int) == 43) = false := by rw [beq_eq_false_iff_ne]; omega
  have hcv : ∀ w : World, (convert 9 48 (.string s)).run Tryz.prog w = .ok (.slice (some ⟨w.heap.size, 0, none⟩) s.size (grownCap w s.size 0 5)) (Lib.bytesWorld w 5 s) := fun w => Lib.run_convert_string_bytes w _ _ _ s Tryz.underlying9 Tryz.underlying48 Tryz.underlying5
  go_enter Tryz.func132, Tryz.ntmps132
  go_wp2_with fail
  go_loop [6, 49] (fun n i => ∃ k : Nat, k ≤ s.size ∧ i = .int .i64 k ∧ n = .int .i64 (numL (s.data.toList.take k))) (fun _ i => s.size - (intOf i).toNat)
  case atStart => exact ⟨0, by omega, rfl, rfl⟩
  case round =>
    obtain ⟨k, hk, rfl, rfl⟩ := hrel
    by_cases hlt : k < s.size
    · have hc := Lib.bytesWorld_cell w 5 s k hlt
      have hl : k < s.data.toList.length := by simpa using hlt
      have hg : s.data.toList.getD k 0 = s.data.toList[k] := by rw [List.getD_eq_getElem?_getD, List.getElem?_eq_getElem hl]; rfl
      rw [hg] at hc
      have hd2 := hd _ (List.getElem_mem hl)
      have hn : numL (s.data.toList.take (k + 1)) = numL (s.data.toList.take k) * 10 + (s.data.toList[k].toNat - 48) := by
        rw [List.take_succ_eq_append_getElem hl, numL_snoc]
      have hb := numL_lt (s.data.toList.take (k + 1)) fun x hx => hd x (List.mem_of_mem_take hx)
      have hp : 10 ^ (s.data.toList.take (k + 1)).length ≤ 10 ^ 18 := Nat.pow_le_pow_right (by omega) (by simp; omega)
      rw [hn] at hb
      generalize numL (s.data.toList.take k) = q at *
      generalize s.data.toList[k].toNat = d at *
      have w1 : IntKind.u8.wrap ((d : Int) - 48) = ((d - 48 : Nat) : Int) := by rw [IntKind.wrap_u8]; omega
      have w2 : IntKind.i64.wrap ((q : Int) * 10) = (q : Int) * 10 := by rw [IntKind.wrap_i64]; omega
      have w3 : IntKind.i64.wrap ((d - 48 : Nat) : Int) = ((d - 48 : Nat) : Int) := by rw [IntKind.wrap_i64]; omega
      have w4 : IntKind.i64.wrap ((q : Int) * 10 + ((d - 48 : Nat) : Int)) = ((q * 10 + (d - 48) : Nat) : Int) := by rw [IntKind.wrap_i64]; omega
      have w5 : ((q * 10 + (d - 48) : Nat) : Int) = (q : Int) * 10 + ((d - 48 : Nat) : Int) := by omega
      rw [w5] at w4
      have g9 : ¬ 9 < ((d - 48 : Nat) : Int) := by omega
      go_wp2
      go_round
      case rel => exact ⟨k + 1, by omega, num_succ k, by rw [hn, w5]⟩
      case measure => simp [intOf]; omega
    · have hk2 : k = s.size := by omega
      subst hk2
      have ht : s.data.toList.take s.size = s.data.toList := List.take_of_length_le (by simp)
      rw [ht]
      go_wp2
      go_ret2
      exact ⟨rfl, below_bytes w _ s⟩
end Go.Proofs.YtkpfpegjapddfaaGreatDoor
set_option maxRecDepth 20000
namespace Go.Proofs.YtkpfpegjapddfaaGreatDoor
open Go.RowKit

/-- The package's variables that are read lie there. -/
def Lay (w : World) : Prop := Tab w ∧ (4 < w.heap.size ∧ ∃ t v, w.cell? ⟨4, 0, none⟩ = some (.iface t v)) ∧ (5 < w.heap.size ∧ ∃ t v, w.cell? ⟨5, 0, none⟩ = some (.iface t v))
theorem Lay.below {w w' : World} (h : Lay w) (hb : Below w.heap.size w w') : Lay w' := by
  obtain ⟨h1, ⟨l2, t2, v2, c2⟩, l3, t3, v3, c3⟩ := h
  exact ⟨h1.below hb, ⟨Nat.lt_of_lt_of_le l2 hb.size, t2, v2, by rw [hb.cell (p := ⟨_, 0, none⟩) l2]; exact c2⟩, Nat.lt_of_lt_of_le l3 hb.size, t3, v3, by rw [hb.cell (p := ⟨_, 0, none⟩) l3]; exact c3⟩
theorem atoi_short (s : ByteArray) (w : World) (hd : digitsL s.data.toList) (h0 : 0 < s.size) (h1 : s.size < 19) :
    Calls Tryz.prog 131 #[.string s] w fun e w' => e = .returned (.tuple #[.int .i64 (numL s.data.toList), .nilIface]) ∧ Below w.heap.size w w' := by
  go_enter Tryz.func131, Tryz.ntmps131
  go_wp2_with (go_at_call 132; refine (iatoi_short s _ hd h0 h1).mono ?_; rintro e w1 ⟨rfl, hb1⟩)
  go_ret2
  exact ⟨rfl, hb1⟩
theorem parseInt_empty (s : ByteArray) (w : World) (h0 : s.size = 0) (a b : Int) :
    Calls Tryz.prog 134 #[.string s, .int .i64 a, .int .i64 b] w fun e w' => e = .returned (.tuple #[.int .i64 0, .iface 150 (.int .i64 2)]) ∧ Below w.heap.size w w' := by
  have hs : s = ⟨#[]⟩ := by
    rcases s with ⟨⟨l⟩⟩
    have : l = [] := List.length_eq_zero_iff.1 h0
    rw [this]
  subst hs
  go_enter Tryz.func134, Tryz.ntmps134
  go_wp2
  go_ret2
  exact ⟨rfl, Below.refl _ _⟩
theorem iatoi_empty (s : ByteArray) (w : World) (h0 : s.size = 0) :
    Calls Tryz.prog 132 #[.string s] w fun e w' => e = .returned (.tuple #[.int .i64 0, .iface 150 (.int .i64 2)]) ∧ Below w.heap.size w w' := by
  go_enter Tryz.func132, Tryz.ntmps132
  go_wp2_with (go_at_call 134; refine (parseInt_empty s _ h0 _ _).mono ?_; rintro e w1 ⟨rfl, hb1⟩)
  go_ret2
  exact ⟨rfl, hb1⟩
theorem clone_empty (s : ByteArray) (w : World) (h0 : s.size = 0) : Calls Tryz.prog 140 #[.string s] w fun e w' => e = .returned (.string ⟨#[]⟩) ∧ w' = w := by
  go_enter Tryz.func140, Tryz.ntmps140
  go_wp2
  go_ret
  exact ⟨rfl, rfl⟩
theorem syntaxError_empty (fn s : ByteArray) (w : World) (hL : Lay w) (h0 : s.size = 0) :
    Calls Tryz.prog 135 #[.string fn, .string s] w fun e w' => ∃ g : Nat, e = .returned (.pointer (some ⟨g, 0, none⟩)) ∧ Below w.heap.size w w' := by
  obtain ⟨_, ⟨l2, t2, v2, c2⟩, _⟩ := hL
  go_enter Tryz.func135, Tryz.ntmps135
  go_wp2_with fail
  go_region_with (first | (go_at_call 140; refine (clone_empty _ _ h0).mono ?_; rintro e w1 ⟨rfl, rfl⟩))
  all_goals go_wp2
  all_goals go_ret
  all_goals exact ⟨_, rfl, ((Below.refl _ _).alloc (Nat.le_refl _) _).drew⟩
theorem toError_empty (fn s : ByteArray) (w : World) (hL : Lay w) (h0 : s.size = 0) :
    Calls Tryz.prog 133 #[.string fn, .string s, .int .i64 0, .int .i64 0, .iface 150 (.int .i64 2)] w fun e w' => ∃ t v, e = .returned (.iface t v) ∧ Below w.heap.size w w' := by
  have heq : ∀ w : World, (binOp BinOp.eql 65 (.iface 150 (.int .i64 2)) (.iface 150 (.int .i64 2))).run Tryz.prog w = .ok (.bool true) w := fun w => by kernel_rfl
  go_enter Tryz.func133, Tryz.ntmps133
  go_wp2_with (first | (go_at_call 135; refine (syntaxError_empty _ _ _ hL h0).mono ?_; rintro e w1 ⟨g, rfl, hb1⟩))
  go_ret
  exact ⟨_, _, rfl, hb1⟩
theorem atoi_empty (s : ByteArray) (w : World) (hL : Lay w) (h0 : s.size = 0) :
    Calls Tryz.prog 131 #[.string s] w fun e w' => ∃ t v, e = .returned (.tuple #[.int .i64 0, .iface t v]) ∧ Below w.heap.size w w' := by
  go_enter Tryz.func131, Tryz.ntmps131
  go_wp2_with (first
    | (go_at_call 132; refine (iatoi_empty s _ h0).mono ?_; rintro e w1 ⟨rfl, hb1⟩)
    | (go_at_call 133; refine (toError_empty _ _ _ (hL.below hb1) h0).mono ?_; rintro e w2 ⟨t, v, rfl, hb2⟩))
  go_ret2
  exact ⟨_, _, rfl, below_step hb1 hb2⟩
end Go.Proofs.YtkpfpegjapddfaaGreatDoor
set_option maxRecDepth 20000
namespace Go.Proofs.YtkpfpegjapddfaaGreatDoor
open Go.RowKit

def digC (c : UInt8) : Bool := digB c.toNat
/-- How many digits come next. -/
def digN (l : List UInt8) : Nat := (l.takeWhile digC).length
/-- The number that comes next, and how long it is; none: there is none, or it is none that may be. -/
def numB (l : List UInt8) : Option (Nat × Nat) := if digN l = 0 ∨ 2 < digN l ∨ 32 < numL (l.takeWhile digC) then none else some (numL (l.takeWhile digC), digN l)
/-- Where the parser stands. -/
def posOf (bp : Nat) (w : World) : Nat := match w.cell? ⟨bp, 1, none⟩ with
  | some (.int _ n) => n.toNat
  | _ => 0
theorem PB.pos {w : World} {bp : Nat} {s : ByteArray} {i o : Nat} {m : Value} (h : PB w bp s i o m) : posOf bp w = i := by
  obtain ⟨_, h1, _, _⟩ := h.cells
  unfold posOf
  rw [h1]
  rfl
theorem digit_is (b : Nat) (v : Bool) (h : digB b = v) (w : World) : Calls Tryz.prog 85 #[.int .u8 b] w fun e w' => e = .returned (.bool v) ∧ w' = w := by
  have := digit_any b w
  rw [h] at this
  exact this
/-- A block above the package's variables. -/
def Lo (bp : Nat) : Prop := 0 < bp ∧ 4 < bp ∧ 5 < bp
theorem Lay.grown {w w' : World} {bp : Nat} (h : Lay w) (hg : w.grownBy w' (some bp)) (hlo : Lo bp) : Lay w' := by
  obtain ⟨⟨l1, c1⟩, ⟨l2, t2, v2, c2⟩, l3, t3, v3, c3⟩ := h
  obtain ⟨b1, b2, b3⟩ := hlo
  have hc : ∀ (g o : Nat), g < bp → g < w.heap.size → w'.cell? ⟨g, o, none⟩ = w.cell? ⟨g, o, none⟩ := fun g o hb hl => World.cell?_of_block (hg.block g hl (by simp; omega))
  exact ⟨⟨Nat.lt_of_lt_of_le l1 hg.size, fun j hj => (hc _ _ b1 l1).trans (c1 j hj)⟩, ⟨Nat.lt_of_lt_of_le l2 hg.size, t2, v2, (hc _ _ b2 l2).trans c2⟩, Nat.lt_of_lt_of_le l3 hg.size, t3, v3, (hc _ _ b3 l3).trans c3⟩
theorem takeWhile_take (l : List UInt8) (p : UInt8 → Bool) : l.take (l.takeWhile p).length = l.takeWhile p := by
  have h := List.takeWhile_prefix p (l := l)
  exact (List.prefix_iff_eq_take.1 h).symm
theorem digs_extract (s : ByteArray) (i : Nat) : (s.extract i (i + digN (rest s i))).data.toList = (rest s i).takeWhile digC := by
  have h := takeWhile_take (rest s i) digC
  rw [← h]
  unfold rest digN
  simp
theorem digs_size (s : ByteArray) (i : Nat) : (s.extract i (i + digN (rest s i))).size = digN (rest s i) := by
  have h := congrArg List.length (digs_extract s i)
  exact (Array.length_toList (xs := (s.extract i (i + digN (rest s i))).data)).symm.trans h
theorem digs_digits (l : List UInt8) : digitsL (l.takeWhile digC) := fun c hc => by
  have h2 : ∀ (l : List UInt8), ∀ c ∈ l.takeWhile digC, digC c = true := by
    intro l
    induction l with
    | nil => intro c h; simp at h
    | cons a l ih =>
      intro c h
      rw [List.takeWhile_cons] at h
      split at h
      · rename_i ha
        rcases List.mem_cons.1 h with rfl | h
        · exact ha
        · exact ih c h
      · simp at h
  have := h2 l c hc
  simp [digC, digB] at this
  omega
theorem digN_le (l : List UInt8) : digN l ≤ l.length := by
  unfold digN
  exact (List.takeWhile_prefix digC).length_le
/-- What strconv.Atoi answers to nineteen digits and more. -/
def AtoiBig : Prop := ∀ z : ByteArray, digitsL z.data.toList → 19 ≤ z.size → z.size ≤ 65536 →
  (∃ n : Int, ∀ w, Lay w → Calls Tryz.prog 131 #[.string z] w fun e w' => e = .returned (.tuple #[.int .i64 n, .nilIface]) ∧ Below w.heap.size w w') ∨
  (∀ w, Lay w → Calls Tryz.prog 131 #[.string z] w fun e w' => ∃ n t v, e = .returned (.tuple #[.int .i64 n, .iface t v]) ∧ Below w.heap.size w w')
/-- What reading a number leaves. -/
def NumPost (s : ByteArray) (i o : Nat) (m : Value) (bp : Nat) (w : World) (e : Ending) (w' : World) : Prop := match numB (rest s i) with
  | some (n, k) => e = .returned (.int .i64 n) ∧ PS w w' bp s (i + k) o m
  | none => e = .panicked (probV i) ∧ w.grownBy w' (some bp)
set_option maxHeartbeats 4000000 in
theorem number_any (s : ByteArray) (i o : Nat) (m : Value) (bp : Nat) (w : World) (h : PB w bp s i o m) (hi : i ≤ s.size) (hs : s.size ≤ 65536) (hL : Lay w) (hsh : AtoiBig) (hlo : Lo bp) :
    Calls Tryz.prog 128 #[.pointer (some ⟨bp, 0, none⟩)] w fun e w' => NumPost s i o m bp w e w' := by
  obtain ⟨p0, p1, p2, p3⟩ := h.cells
  go_enter Tryz.func128, Tryz.ntmps128
  go_wp2_with fail
  go_loopw [] (fun wr => ∃ j : Nat, i ≤ j ∧ j ≤ s.size ∧ j + digN (rest s j) = i + digN (rest s i) ∧ PB wr bp s j o m ∧ w.grownBy wr (some bp)) (fun wr => s.size - posOf bp wr)
  case atStart => exact ⟨i, Nat.le_refl _, hi, rfl, h, go_refl _ _⟩
  case round =>
    obtain ⟨j, hij, hj, hd, hj2, hg⟩ := hrel
    clear p0 p1 p2 p3
    have hbp := h.lt
    clear h
    obtain ⟨p0, p1, p2, p3⟩ := hj2.cells
    have f1 := hj2.free 1
    have e1 : IntKind.i64.wrap ((j : Int) + 1) = (j : Int) + 1 := by rw [IntKind.wrap_i64]; omega
    have j0 : (0 : Int) ≤ (j : Int) := by omega
    have i0 : (0 : Int) ≤ (i : Int) := by omega
    have ij : (i : Int) ≤ (j : Int) := by omega
    have js : (j : Int) ≤ (s.size : Int) := by omega
    rcases Nat.lt_or_ge j s.size with hlt | hge
    · have hr := rest_cons hlt
      have he : (rest s j).isEmpty = false := by rw [hr]; rfl
      have j1 : (j : Int) < (s.size : Int) := by omega
      by_cases c : digB s[j].toNat = true
      · have hd1 : digN (rest s j) = digN (rest s (j + 1)) + 1 := by rw [hr]; simp [digN, digC, c]
        go_wp2_with fail
        go_quiet (first
          | (go_at_call 79; refine Calls.quiet_of (atEnd_any s j o m bp _ (PB.drewN hj2 _) hj false he))
          | (go_at_call 85; refine Calls.quiet_of_same (digit_is s[j].toNat true c _)))
        go_wp2
        have h3 := PB.to (hj2.drewN nq) (j + 1) (x := (j : Int) + 1) (by omega)
        exact ⟨⟨j + 1, by omega, by omega, by omega, h3, (hg.trans (go_drewN _ _ _)).trans (go_set _ bp 1 _)⟩, by rw [h3.pos, hj2.pos]; omega⟩
      · rw [Bool.not_eq_true] at c
        have hd1 : digN (rest s j) = 0 := by rw [hr]; simp [digN, digC, c]
        go_wp2_with fail
        go_quiet (first
          | (go_at_call 79; refine Calls.quiet_of (atEnd_any s j o m bp _ (PB.drewN hj2 _) hj false he))
          | (go_at_call 85; refine Calls.quiet_of_same (digit_is s[j].toNat false c _)))
        obtain ⟨w2, hw2⟩ : ∃ x, x = wr.drewN nq := ⟨_, rfl⟩
        have hp2 : PB w2 bp s j o m := by rw [hw2]; exact hj2.drewN nq
        have hg2 : w.grownBy w2 (some bp) := by rw [hw2]; exact hg.trans (go_drewN _ _ _)
        rw [← hw2]
        clear hw2 hj2 hg p0 p1 p2 p3 f1
        obtain ⟨p0, p1, p2, p3⟩ := hp2.cells
        have hl2 := hp2.lt
        have hjD : j = i + digN (rest s i) := by omega
        have hx : (s.extract i j).data.toList = (rest s i).takeWhile digC := by rw [hjD]; exact digs_extract s i
        have hz : (s.extract i j).size = digN (rest s i) := by rw [hjD]; exact digs_size s i
        have hdd : digitsL (s.extract i j).data.toList := by rw [hx]; exact digs_digits _
        have hL2 : Lay w2 := hL.grown hg2 hlo
        have HJ := Lib.hid hjD
        have e5 : IntKind.i64.wrap ((j : Int) - (i : Int)) = ((digN (rest s i) : Nat) : Int) := by rw [IntKind.wrap_i64]; omega
        clear hjD hd hd1
        go_wp2_with fail
        rcases Nat.eq_zero_or_pos (digN (rest s i)) with hD | hD
        · have hn : numB (rest s i) = none := by simp [numB, hD]
          rw [hD] at hz
          go_region_held3 (fun W => W.cell? ⟨bp, 0, none⟩ = some (.string s) ∧ W.cell? ⟨bp, 1, none⟩ = some (.int .i64 j) ∧ W.cell? ⟨bp, 2, none⟩ = some (.int .i64 o) ∧ W.cell? ⟨bp, 3, none⟩ = some m ∧ Below w2.heap.size w2 W)
            (first | (with_reducible assumption) | (with_reducible exact pk_keep hl2 (by assumption) (by assumption)) | (with_reducible exact pk_start hp2 (Below.refl _ _).drew))
            (first
              | (go_at_call 131; (with_reducible refine (atoi_empty _ _ (hL2.below (pk_below (by assumption))) hz).mono ?_); rintro e w3 ⟨t, v, rfl, hb3⟩))
          all_goals
            have hbf := pk_below (by assumption)
            go_wp2_with (first | (go_at_call 80; refine (fail_any i _).mono ?_; rintro e w2 ⟨rfl, rfl⟩))
            refine ⟨rfl, ?_⟩
            unfold NumPost
            rw [hn]
            exact ⟨rfl, hg2.trans (grown_of_below hbf)⟩
        · rcases Nat.lt_or_ge (digN (rest s i)) 19 with hB | hB
          rotate_left
          · have hn : numB (rest s i) = none := by simp [numB]; omega
            have hmx := digN_le (rest s i)
            rw [rest_length] at hmx
            have h2 : 2 < digN (rest s i) := by omega
            rcases hsh (s.extract i j) hdd (by omega) (by omega) with ⟨nn, hA⟩ | hA
            · go_region_held3 (fun W => W.cell? ⟨bp, 0, none⟩ = some (.string s) ∧ W.cell? ⟨bp, 1, none⟩ = some (.int .i64 j) ∧ W.cell? ⟨bp, 2, none⟩ = some (.int .i64 o) ∧ W.cell? ⟨bp, 3, none⟩ = some m ∧ Below w2.heap.size w2 W)
                (first | (with_reducible assumption) | (with_reducible exact pk_keep hl2 (by assumption) (by assumption)) | (with_reducible exact pk_start hp2 (Below.refl _ _).drew))
                (first
                  | (go_at_call 131; (with_reducible refine (hA _ (hL2.below (pk_below (by assumption)))).mono ?_); rintro e w3 ⟨rfl, hb3⟩))
              all_goals
                have hbf := pk_below (by assumption)
                go_wp2_with (first | (go_at_call 80; refine (fail_any i _).mono ?_; rintro e w4 ⟨rfl, rfl⟩))
                refine ⟨rfl, ?_⟩
                unfold NumPost
                rw [hn]
                exact ⟨rfl, hg2.trans (grown_of_below hbf)⟩
            · go_region_held3 (fun W => W.cell? ⟨bp, 0, none⟩ = some (.string s) ∧ W.cell? ⟨bp, 1, none⟩ = some (.int .i64 j) ∧ W.cell? ⟨bp, 2, none⟩ = some (.int .i64 o) ∧ W.cell? ⟨bp, 3, none⟩ = some m ∧ Below w2.heap.size w2 W)
                (first | (with_reducible assumption) | (with_reducible exact pk_keep hl2 (by assumption) (by assumption)) | (with_reducible exact pk_start hp2 (Below.refl _ _).drew))
                (first
                  | (go_at_call 131; (with_reducible refine (hA _ (hL2.below (pk_below (by assumption)))).mono ?_); rintro e w3 ⟨nn, t, v, rfl, hb3⟩))
              all_goals
                have hbf := pk_below (by assumption)
                go_wp2_with (first | (go_at_call 80; refine (fail_any i _).mono ?_; rintro e w4 ⟨rfl, rfl⟩))
                refine ⟨rfl, ?_⟩
                unfold NumPost
                rw [hn]
                exact ⟨rfl, hg2.trans (grown_of_below hbf)⟩
          have hsz : (s.extract i j).size < 19 := by rw [hz]; exact hB
          have hs0 : 0 < (s.extract i j).size := by rw [hz]; exact hD
          go_region_held3 (fun W => W.cell? ⟨bp, 0, none⟩ = some (.string s) ∧ W.cell? ⟨bp, 1, none⟩ = some (.int .i64 j) ∧ W.cell? ⟨bp, 2, none⟩ = some (.int .i64 o) ∧ W.cell? ⟨bp, 3, none⟩ = some m ∧ Below w2.heap.size w2 W)
            (first | (with_reducible assumption) | (with_reducible exact pk_keep hl2 (by assumption) (by assumption)) | (with_reducible exact pk_start hp2 (Below.refl _ _).drew))
            (first
              | (go_at_call 131; (with_reducible refine (atoi_short _ _ hdd hs0 hsz).mono ?_); rw [hx]; rintro e w3 ⟨rfl, hb3⟩))
          all_goals
            have hbf := pk_below (by assumption)
            have hp3 := hp2.below hbf
            by_cases h2 : 2 < digN (rest s i)
            · have hn : numB (rest s i) = none := by simp [numB, h2]
              go_wp2_with (first | (go_at_call 80; refine (fail_any i _).mono ?_; rintro e w4 ⟨rfl, rfl⟩))
              refine ⟨rfl, ?_⟩
              unfold NumPost
              rw [hn]
              exact ⟨rfl, hg2.trans (grown_of_below hbf)⟩
            by_cases h3 : 32 < numL ((rest s i).takeWhile digC)
            · have hn : numB (rest s i) = none := by simp [numB, h3]
              go_wp2_with (first | (go_at_call 80; refine (fail_any i _).mono ?_; rintro e w4 ⟨rfl, rfl⟩))
              refine ⟨rfl, ?_⟩
              unfold NumPost
              rw [hn]
              exact ⟨rfl, hg2.trans (grown_of_below hbf)⟩
            · have hn : numB (rest s i) = some (numL ((rest s i).takeWhile digC), digN (rest s i)) := by
                unfold numB
                rw [if_neg (by omega)]
              go_wp2
              go_ret
              unfold NumPost
              rw [hn]
              exact ⟨rfl, hg2.trans (grown_of_below hbf), by rw [← HJ.out]; exact hp3⟩
    · have he : (rest s j).isEmpty = true := by rw [rest_end hge]; rfl
      have hd1 : digN (rest s j) = 0 := by rw [rest_end hge]; rfl
      go_wp2_with fail
      go_quiet (first
        | (go_at_call 79; refine Calls.quiet_of (atEnd_any s j o m bp _ (PB.drewN hj2 _) hj true he)))
      obtain ⟨w2, hw2⟩ : ∃ x, x = wr.drewN nq := ⟨_, rfl⟩
      have hp2 : PB w2 bp s j o m := by rw [hw2]; exact hj2.drewN nq
      have hg2 : w.grownBy w2 (some bp) := by rw [hw2]; exact hg.trans (go_drewN _ _ _)
      rw [← hw2]
      clear hw2 hj2 hg p0 p1 p2 p3 f1
      obtain ⟨p0, p1, p2, p3⟩ := hp2.cells
      have hl2 := hp2.lt
      have hjD : j = i + digN (rest s i) := by omega
      have hx : (s.extract i j).data.toList = (rest s i).takeWhile digC := by rw [hjD]; exact digs_extract s i
      have hz : (s.extract i j).size = digN (rest s i) := by rw [hjD]; exact digs_size s i
      have hdd : digitsL (s.extract i j).data.toList := by rw [hx]; exact digs_digits _
      have hL2 : Lay w2 := hL.grown hg2 hlo
      have HJ := Lib.hid hjD
      have e5 : IntKind.i64.wrap ((j : Int) - (i : Int)) = ((digN (rest s i) : Nat) : Int) := by rw [IntKind.wrap_i64]; omega
      clear hjD hd hd1
      go_wp2_with fail
      rcases Nat.eq_zero_or_pos (digN (rest s i)) with hD | hD
      · have hn : numB (rest s i) = none := by simp [numB, hD]
        rw [hD] at hz
        go_region_held3 (fun W => W.cell? ⟨bp, 0, none⟩ = some (.string s) ∧ W.cell? ⟨bp, 1, none⟩ = some (.int .i64 j) ∧ W.cell? ⟨bp, 2, none⟩ = some (.int .i64 o) ∧ W.cell? ⟨bp, 3, none⟩ = some m ∧ Below w2.heap.size w2 W)
          (first | (with_reducible assumption) | (with_reducible exact pk_keep hl2 (by assumption) (by assumption)) | (with_reducible exact pk_start hp2 (Below.refl _ _).drew))
          (first
            | (go_at_call 131; (with_reducible refine (atoi_empty _ _ (hL2.below (pk_below (by assumption))) hz).mono ?_); rintro e w3 ⟨t, v, rfl, hb3⟩))
        all_goals
          have hbf := pk_below (by assumption)
          go_wp2_with (first | (go_at_call 80; refine (fail_any i _).mono ?_; rintro e w2 ⟨rfl, rfl⟩))
          refine ⟨rfl, ?_⟩
          unfold NumPost
          rw [hn]
          exact ⟨rfl, hg2.trans (grown_of_below hbf)⟩
      · rcases Nat.lt_or_ge (digN (rest s i)) 19 with hB | hB
        rotate_left
        · have hn : numB (rest s i) = none := by simp [numB]; omega
          have hmx := digN_le (rest s i)
          rw [rest_length] at hmx
          have h2 : 2 < digN (rest s i) := by omega
          rcases hsh (s.extract i j) hdd (by omega) (by omega) with ⟨nn, hA⟩ | hA
          · go_region_held3 (fun W => W.cell? ⟨bp, 0, none⟩ = some (.string s) ∧ W.cell? ⟨bp, 1, none⟩ = some (.int .i64 j) ∧ W.cell? ⟨bp, 2, none⟩ = some (.int .i64 o) ∧ W.cell? ⟨bp, 3, none⟩ = some m ∧ Below w2.heap.size w2 W)
              (first | (with_reducible assumption) | (with_reducible exact pk_keep hl2 (by assumption) (by assumption)) | (with_reducible exact pk_start hp2 (Below.refl _ _).drew))
              (first
                | (go_at_call 131; (with_reducible refine (hA _ (hL2.below (pk_below (by assumption)))).mono ?_); rintro e w3 ⟨rfl, hb3⟩))
            all_goals
              have hbf := pk_below (by assumption)
              go_wp2_with (first | (go_at_call 80; refine (fail_any i _).mono ?_; rintro e w4 ⟨rfl, rfl⟩))
              refine ⟨rfl, ?_⟩
              unfold NumPost
              rw [hn]
              exact ⟨rfl, hg2.trans (grown_of_below hbf)⟩
          · go_region_held3 (fun W => W.cell? ⟨bp, 0, none⟩ = some (.string s) ∧ W.cell? ⟨bp, 1, none⟩ = some (.int .i64 j) ∧ W.cell? ⟨bp, 2, none⟩ = some (.int .i64 o) ∧ W.cell? ⟨bp, 3, none⟩ = some m ∧ Below w2.heap.size w2 W)
              (first | (with_reducible assumption) | (with_reducible exact pk_keep hl2 (by assumption) (by assumption)) | (with_reducible exact pk_start hp2 (Below.refl _ _).drew))
              (first
                | (go_at_call 131; (with_reducible refine (hA _ (hL2.below (pk_below (by assumption)))).mono ?_); rintro e w3 ⟨nn, t, v, rfl, hb3⟩))
            all_goals
              have hbf := pk_below (by assumption)
              go_wp2_with (first | (go_at_call 80; refine (fail_any i _).mono ?_; rintro e w4 ⟨rfl, rfl⟩))
              refine ⟨rfl, ?_⟩
              unfold NumPost
              rw [hn]
              exact ⟨rfl, hg2.trans (grown_of_below hbf)⟩
        have hsz : (s.extract i j).size < 19 := by rw [hz]; exact hB
        have hs0 : 0 < (s.extract i j).size := by rw [hz]; exact hD
        go_region_held3 (fun W => W.cell? ⟨bp, 0, none⟩ = some (.string s) ∧ W.cell? ⟨bp, 1, none⟩ = some (.int .i64 j) ∧ W.cell? ⟨bp, 2, none⟩ = some (.int .i64 o) ∧ W.cell? ⟨bp, 3, none⟩ = some m ∧ Below w2.heap.size w2 W)
          (first | (with_reducible assumption) | (with_reducible exact pk_keep hl2 (by assumption) (by assumption)) | (with_reducible exact pk_start hp2 (Below.refl _ _).drew))
          (first
            | (go_at_call 131; (with_reducible refine (atoi_short _ _ hdd hs0 hsz).mono ?_); rw [hx]; rintro e w3 ⟨rfl, hb3⟩))
        all_goals
          have hbf := pk_below (by assumption)
          have hp3 := hp2.below hbf
          by_cases h2 : 2 < digN (rest s i)
          · have hn : numB (rest s i) = none := by simp [numB, h2]
            go_wp2_with (first | (go_at_call 80; refine (fail_any i _).mono ?_; rintro e w4 ⟨rfl, rfl⟩))
            refine ⟨rfl, ?_⟩
            unfold NumPost
            rw [hn]
            exact ⟨rfl, hg2.trans (grown_of_below hbf)⟩
          by_cases h3 : 32 < numL ((rest s i).takeWhile digC)
          · have hn : numB (rest s i) = none := by simp [numB, h3]
            go_wp2_with (first | (go_at_call 80; refine (fail_any i _).mono ?_; rintro e w4 ⟨rfl, rfl⟩))
            refine ⟨rfl, ?_⟩
            unfold NumPost
            rw [hn]
            exact ⟨rfl, hg2.trans (grown_of_below hbf)⟩
          · have hn : numB (rest s i) = some (numL ((rest s i).takeWhile digC), digN (rest s i)) := by
              unfold numB
              rw [if_neg (by omega)]
            go_wp2
            go_ret
            unfold NumPost
            rw [hn]
            exact ⟨rfl, hg2.trans (grown_of_below hbf), by rw [← HJ.out]; exact hp3⟩
end Go.Proofs.YtkpfpegjapddfaaGreatDoor
