/- Texts that a proof rests on: Groups of numbers: two of them are joined. | Groups of numbers: each by itself at first. | Two machines at once: where they are at first, whether they differ; a state's mark. | Two machines at once: where they are ahead of the text. | Contract: the states that end something. | Rows of rows of Booleans, to be read; the reference's alias. | Mathematics: states that some text tells apart; groups that are closed hold none. | Mathematics: a walk over pairs by the shortest texts first, that leaves out what is joined already, finds the least text that tells apart. | Mathematics: each join of two groups leaves one head less. | Mathematics: two machines as one on marks; what tells two machines apart. -/
import Derived.Test.YtamgldhnfcikbaaK08
set_option maxRecDepth 100000
namespace Go.Proofs.Ytamgldhnfcikbaa
open Go.RowKit

theorem gb_trans {a w w' : World} {row : Option Nat} (h : a.grownBy w row) (k : w.grownBy w' row) : a.grownBy w' row :=
  ⟨k.os.trans h.os, k.tape.trans h.tape, k.output.trans h.output, Nat.le_trans h.size k.size, fun j hj hne => (k.block j (Nat.lt_of_lt_of_le hj h.size) hne).trans (h.block j hj hne)⟩
def joinR (R : Nat → Nat) (x y : Nat) : Nat → Nat := fun i => if R i = R x then R y else R i
theorem UF.join {r : Nat → Nat} {n x y : Nat} {A R : Nat → Nat} (h : UF r n A R) (hx : x < n) (hy : y < n) : ∃ r', UF r' n (fun i => if i = R x then R y else A i) (joinR R x y) := by
  obtain ⟨_, x2, _, x4, _, _⟩ := h x hx
  obtain ⟨_, y2, _, y4, _, _⟩ := h y hy
  have xx : R (R x) = R x := (h _ x2).2.2.2.2.2 x4
  have yy : R (R y) = R y := (h _ y2).2.2.2.2.2 y4
  unfold joinR
  generalize R x = a at *
  generalize R y = b at *
  by_cases hab : a = b
  · subst hab
    refine ⟨r, fun i hi => ?_⟩
    obtain ⟨h1, h2, h3, h4, h5, h6⟩ := h i hi
    have e1 : ∀ j, (if R j = a then a else R j) = R j := fun j => by
      by_cases e : R j = a
      · rw [if_pos e, e]
      · rw [if_neg e]
    have e2 : ∀ j, (if j = a then a else A j) = A j := fun j => by
      by_cases e : j = a
      · rw [if_pos e, e, x4]
      · rw [if_neg e]
    simp only [e1, e2]
    exact ⟨h1, h2, h3, h4, h5, h6⟩
  · refine ⟨fun i => if R i = a then r i + r b + 1 else r i, fun i hi => ?_⟩
    obtain ⟨h1, h2, h3, h4, h5, h6⟩ := h i hi
    have hba : ¬ b = a := fun e => hab e.symm
    have hrb : ¬ R b = a := by rw [yy]; exact hba
    by_cases hia : i = a
    · subst hia
      simp only [if_true, xx, if_false, yy, hba, y4]
      exact ⟨y2, y2, trivial, trivial, fun _ => by omega, fun e => e⟩
    · simp only [if_neg hia, h3]
      by_cases hR : R i = a
      · simp only [if_pos hR, hba, if_false, y4]
        refine ⟨h1, y2, trivial, trivial, fun hne => ?_, fun he => ?_⟩
        · have := h5 hne; omega
        · exact absurd ((h6 he).symm.trans hR) hia
      · simp only [if_neg hR]
        exact ⟨h1, h2, trivial, h4, h5, h6⟩
set_option linter.unusedSimpArgs false in
set_option maxHeartbeats 4000000 in
theorem join_any (r : Nat → Nat) (bs g cap n x y : Nat) (A R : Nat → Nat) (w : World) (hA : SA w bs g cap n A) (hu : UF r n A R) (hx : x < n) (hy : y < n) :
    Calls Try.prog 65 #[.pointer (some ⟨bs, 0, none⟩), .int .i64 x, .int .i64 y] w fun e w' => e = .returned (.bool (decide (R x ≠ R y))) ∧ ∃ r' B, Hid (UF r' n B (joinR R x y)) ∧ Hid (SA w' bs g cap n B) ∧ Hid (w.grownBy w' (some g)) := by
  have H1 := Lib.hid (head_any r bs g cap n x A R w hA hu hx)
  have H2 := Lib.hid (fun (B : Nat → Nat) (w5 : World) (h5 : SA w5 bs g cap n B) (hu5 : UF r n B R) => head_any r bs g cap n y B R w5 h5 hu5 hy)
  have hxn := (hu x hx).2.1
  have HJ := Lib.hid (fun (B : Nat → Nat) (hu5 : UF r n B R) => hu5.join hx hy)
  have hxl : ((R x : Nat) : Int) < n := by omega
  clear hA hu
  have HD := Lib.hid (show decide (R x ≠ R y) = (((R x : Nat) : Int) != (R y : Nat)) from by
    rw [Bool.eq_iff_iff, bne_iff_ne, decide_eq_true_eq]; omega)
  unfold joinR at *
  generalize R x = a at *
  generalize R y = b at *
  go_enter Try.func65, Try.ntmps65
  go_wp2_with (first
    | (go_at_call 74; refine H1.out.mono ?_; rintro e w5 ⟨rfl, B5, hu5, ha5, hg5⟩; have HU5 := Lib.hid hu5.out; have HA5 := Lib.hid ha5.out; have HG5 := Lib.hid hg5.out; clear hu5 ha5 hg5 H1)
    | (go_at_call 74; refine (H2.out B5 w5 HA5.out HU5.out).mono ?_; rintro e w6 ⟨rfl, B6, hu6, ha6, hg6⟩; have HU6 := Lib.hid hu6.out; have HA6 := Lib.hid ha6.out; have HG6 := Lib.hid (gb_trans HG5.out hg6.out); have p0 := ha6.out.head; have p1 := ha6.out.at hxn; have p2 := ha6.out.frozen (i := a); clear hu6 ha6 hg6 H2))
  obtain ⟨r', hj⟩ := HJ.out B6 HU6.out
  have HN := Lib.hid (HA6.out.set (k := a) (v := b) (B := fun i => if i = a then b else B6 i) (by simp) fun i _ hne => by rw [if_neg hne])
  refine bodyPost_ret (v := .bool (decide (a ≠ b))) (by rw [HD.out]; simp [results, Try.results65, go_sem]) rfl ⟨rfl, r', _, Lib.hid hj, HN, Lib.hid (gb_set HG6.out a _)⟩
end Go.Proofs.Ytamgldhnfcikbaa
set_option maxRecDepth 100000
namespace Go.Proofs.Ytamgldhnfcikbaa
open Go.RowKit

theorem natsV_succ (n : Nat) (A : Nat → Nat) : natsV (n + 1) A = natsV n A ++ [.int .i64 (A n : Nat)] := by
  unfold natsV
  rw [List.range_succ, List.map_append]; rfl
theorem own_self {w : World} {B g cap n : Nat} {e : TypeId} {xs : List Value} (h : w.ownsRow B e 1 (.slice (some ⟨g, 0, none⟩) n cap) n xs) : B ≤ g ∧ w.ownsRow g e 1 (.slice (some ⟨g, 0, none⟩) n cap) n xs := by
  refine ⟨(h.lt g rfl).1, h.1, ?_⟩
  rcases h.2 with ⟨h', _⟩ | ⟨g', cap', cur, h', hb, hg, rest⟩
  · simp at h'
  · simp only [Value.slice.injEq, Option.some.injEq, Addr.mk.injEq, and_true, true_and] at h'
    obtain ⟨rfl, rfl⟩ := h'
    exact .inr ⟨g, cap, cur, rfl, Nat.le_refl _, hg, rest⟩
theorem UF.alone (n : Nat) : UF (fun _ => 0) n (fun i => i) (fun i => i) := fun _ hi => ⟨hi, hi, rfl, rfl, fun h => absurd rfl h, fun _ => rfl⟩
def SCell (w : World) (bs : Nat) (v : Value) : Prop := w.heap[bs]? = some (.cells #[v] 117 (0, 0))
theorem SCell.cell {w : World} {bs : Nat} {v : Value} (h : SCell w bs v) : w.cell? ⟨bs, 0, none⟩ = some v := (cell_of_row w bs 0 _ _ _ h).trans rfl
theorem SCell.frozen {w : World} {bs : Nat} {v : Value} (h : SCell w bs v) : w.frozen? ⟨bs, 0, none⟩ = false := frozen_row (j := 0) h
theorem SCell.set {w : World} {bs : Nat} {v : Value} (h : SCell w bs v) (u : Value) : SCell (w.setCell ⟨bs, 0, none⟩ u) bs u := by
  unfold SCell
  rw [setCell_block h]; rfl
theorem SCell.lt {w : World} {bs : Nat} {v : Value} (h : SCell w bs v) : bs < w.heap.size := lt_of_block h
set_option linter.unusedSimpArgs false in
set_option maxHeartbeats 4000000 in
theorem newSames_any (n : Nat) (w : World) (h0 : 0 < n) (hn : n < 1000000) :
    Calls Try.prog 54 #[.int .i64 n] w fun e w' => ∃ bs g cap, e = .returned (.pointer (some ⟨bs, 0, none⟩)) ∧ w.heap.size ≤ bs ∧ w.heap.size ≤ g ∧ Hid (SA w' bs g cap n fun i => i) ∧ Hid (Below w.heap.size w w') := by
  obtain ⟨i0, hi0, hz0, hz1, hz2⟩ := info_parts infoI
  have HI := Lib.hid (And.intro hi0 (And.intro hz0 (And.intro hz1 hz2)))
  clear hi0 hz0 hz1 hz2
  obtain ⟨N, hN⟩ : ∃ N, w.heap.size = N := ⟨_, rfl⟩
  have HC0 : Hid (SCell (w.alloc (.cells #[.slice none 0 0] 117)) N (.slice none 0 0)) := Lib.hid (by rw [← hN]; exact heap_alloc_new w _)
  have HR0 : Hid ((w.alloc (.cells #[.slice none 0 0] 117)).ownsRow (N + 1) 3 1 (.slice none 0 0) 0 (natsV 0 fun i => i)) := Lib.hid (World.ownsRow_nil _ _ _ _)
  have HB0 : Hid (Below N w (w.alloc (.cells #[.slice none 0 0] 117))) := Lib.hid (by rw [← hN]; exact new_one w _)
  rw [hN]
  go_enter Try.func54, Try.ntmps54
  go_wp2
  go_loopw [8] (fun z wr => ∃ (k : Nat) (v : Value), z = .int .i64 k ∧ k ≤ n ∧ Hid (SCell wr N v) ∧ Hid (wr.ownsRow (N + 1) 3 1 v k (natsV k fun i => i)) ∧ Hid (Below N w wr)) (fun z _ => n - (intOf z).toNat)
  case atStart => exact ⟨0, _, rfl, Nat.zero_le _, HC0, HR0, HB0⟩
  case round =>
    clear HC0 HR0 HB0
    obtain ⟨k, v, rfl, hk, HC, HR, HB⟩ := hrel
    by_cases hlt : k < n
    · have hd : decide ((k : Int) < n) = true := decide_eq_true (by omega)
      have p0 := HC.out.cell
      have hsz := HC.out.lt
      have HSU := Lib.hid (natsV_succ k fun i => i)
      obtain ⟨a3, cp3, rfl⟩ := row_form HR.out
      have HRA := Lib.hid (HR.out.alloc (.cells #[.int .i64 k] 3))
      go_wp2_with (at_builtin; refine wpList_append_lies _ rfl _ _ 44 rfl (N + 1) 3 i0 (.int .i64 0) 1 8 Try.underlying44 HI.out.1 HI.out.2.1 HI.out.2.2.1 HI.out.2.2.2 rfl (by decide) (.slice a3 k cp3) k (natsV k fun i => i) rfl HRA.out ⟨wr.heap.size, 0, none⟩ 1 1 [.int .i64 k] rfl rfl (one_newsI (heap_alloc_new wr _)) (by simp [Value.oneCell']) (by omega) (by unfold maxLen; omega) (by omega) (by simp; omega) (wr.heap.size + 1) (by simp) ?_; intro g cap2 w8 h2 h3 h4 h5; have HP1 := Lib.hid (push3 HB.out HR.out (Nat.le_succ N) (by omega) ((Below.refl _ _).alloc (Nat.le_refl _) _) h3); have HP2 : Hid (SCell w8 N (.slice a3 k cp3)) := Lib.hid ((h3.block N (by simp; omega) (fun e => by have := (HR.out.lt N e.symm).1; omega)).trans ((heap_alloc_old _ _ hsz).trans HC.out)); have HP3 := Lib.hid h2; have p8 := HP2.out.cell; have f8 := HP2.out.frozen; clear h2 h3 h4 h5)
      go_roundw
      case rel => exact ⟨k + 1, _, num_succ k, by omega, HP2.out.set _ |> Lib.hid, by rw [HSU.out]; exact Lib.hid (ownsRow_setCell_below HP3.out (Nat.lt_succ_self N) _), Lib.hid (HP1.out.setCell (Nat.le_refl N) _)⟩
      case measure => simp [intOf]; omega
    · obtain rfl : k = n := by omega
      have hd : decide ((k : Int) < k) = false := by simp
      obtain ⟨g, cap, rfl, hg1, hg2⟩ := HR.out.form h0
      have HS : Hid (SA wr N g cap k fun i => i) := Lib.hid ⟨by omega, HC.out, (own_self HR.out).2⟩
      go_wp2
      exact bodyPost_ret (v := .pointer (some ⟨N, 0, none⟩)) (by simp [results, Try.results54, go_sem, *]) rfl ⟨N, g, cap, rfl, Nat.le_refl _, by omega, HS, HB⟩
end Go.Proofs.Ytamgldhnfcikbaa
set_option maxRecDepth 100000
namespace Go.Proofs.Ytamgldhnfcikbaa
open Go.RowKit

theorem acc_ne (x y : Nat) : decide (x ≠ y) = ((x : Int) != (y : Int)) := by
  rw [Bool.eq_iff_iff, bne_iff_ne, decide_eq_true_eq]; omega
theorem idx0 (p q : Value) (w : World) : (Instr.index 92 (.agg #[p, q]) (.int .i64 0)).run Try.prog w = .ok p w := by kernel_rfl
theorem idx1 (p q : Value) (w : World) : (Instr.index 92 (.agg #[p, q]) (.int .i64 1)).run Try.prog w = .ok q w := by kernel_rfl
theorem wpList_index {ops : Array Oper} {rest : List Oper} {op : Oper} {a : Act} {w : World} {Q : Exit → Act → World → Prop} (t : TypeId) (k : Int) (xs : Array Value) (u : Value) (hi : ∀ w, (Instr.index t (.agg xs) (.int .i64 k)).run Try.prog w = .ok u w) (hgd : op.guard = none) (x y : Operand) (ho : op.op = .index t x y)
    (hx : a.eval x = .agg xs) (hy : a.eval y = .int .i64 k) (h : wpList Try.prog ops Q rest (a.put op.dst u) w) : wpList Try.prog ops Q (op :: rest) a w :=
  wpList_plain hgd fun _ hK => by
    unfold Oper.wp execOp
    simp only [ho, hx, hy, Sem.run_bind, Sem.run_pure, Result.andThen_ok, hi]
    exact hK _ _ h
def markN (la : Nat) (j : Nat) (s : Int) : Int := if s = -1 then 0 else 1 + j * la + s
theorem mark_any (bw la : Nat) (aa : Option Addr) (ca j : Nat) (s : Int) (w : World) (hj : j < 2) (hla : la < 10000) (hs : -1 ≤ s) (hs2 : s < 10000) (h0 : w.cell? ⟨bw, 0, none⟩ = some (.slice aa la ca)) :
    Calls Try.prog 66 #[.pointer (some ⟨bw, 0, none⟩), .int .i64 j, .int .i64 s] w fun e w' => e = .returned (.int .i64 (markN la j s)) ∧ w' = w := by
  by_cases hn : s = -1
  · subst hn
    go_enter Try.func66, Try.ntmps66
    go_wp2
    go_ret
    exact ⟨rfl, rfl⟩
  · have hq : (s == -1) = false := by simpa using hn
    have HM := Lib.hid (show markN la j s = 1 + j * la + s from if_neg hn)
    rcases (show j = 0 ∨ j = 1 by omega) with rfl | rfl
    · go_enter Try.func66, Try.ntmps66
      go_wp2
      go_ret
      exact ⟨by rw [HM.out]; simp; try omega, rfl⟩
    · go_enter Try.func66, Try.ntmps66
      go_wp2
      go_ret
      exact ⟨by rw [HM.out]; simp; try omega, rfl⟩
set_option linter.unusedSimpArgs false in
set_option maxHeartbeats 4000000 in
theorem differ_any (va vb : Value) (m n : List Sta) (p q : Int) (w : World) (hv : MachAt w va m) (hu : MachAt w vb n) (hp : p = -1 ∨ ∃ k : Nat, p = k ∧ k < m.length) (hq : q = -1 ∨ ∃ k : Nat, q = k ∧ k < n.length) :
    Calls Try.prog 39 #[.agg #[va, vb], .agg #[.int .i64 p, .int .i64 q]] w fun e w' => e = .returned (.bool (decide (accS m p ≠ accS n q))) ∧ Below w.heap.size w w' := by
  obtain ⟨N, hN⟩ : ∃ N, w.heap.size = N := ⟨_, rfl⟩
  obtain ⟨a0, c0, rfl⟩ := hv.len
  obtain ⟨a1, c1, rfl⟩ := hu.len
  have HV := Lib.hid (show ∀ wr, Below N w wr → MachAt wr (.slice a0 m.length c0) m from fun wr hb => hv.below (by rw [hN]; exact hb))
  have HU := Lib.hid (show ∀ wr, Below N w wr → MachAt wr (.slice a1 n.length c1) n from fun wr hb => hu.below (by rw [hN]; exact hb))
  have HP := Lib.hid hp
  have HQ := Lib.hid hq
  clear hv hu hp hq
  obtain ⟨W3, hW3⟩ : ∃ W3, ((w.alloc (.cells #[.slice a0 m.length c0, .slice a1 n.length c1] 58)).alloc (.cells #[.int .i64 p, .int .i64 q] 92)).alloc (.cells #[.int .u64 0, .int .u64 0] 98) = W3 := ⟨_, rfl⟩
  have HC0 : Hid (W3.heap[N]? = some (.cells #[.slice a0 m.length c0, .slice a1 n.length c1] 58 (0, 0))) := Lib.hid (by
    rw [← hW3, heap_alloc_old _ _ (by simp; omega), heap_alloc_old _ _ (by simp; omega), ← hN]; exact heap_alloc_new w _)
  have HE0 : Hid (W3.heap[N + 1 + 1]? = some (.cells #[.int .u64 0, .int .u64 0] 98 (0, 0))) := Lib.hid (by
    have := heap_alloc_new ((w.alloc (.cells #[.slice a0 m.length c0, .slice a1 n.length c1] 58)).alloc (.cells #[.int .i64 p, .int .i64 q] 92)) (.cells #[.int .u64 0, .int .u64 0] 98)
    simp only [World.size_alloc, hN] at this
    rw [← hW3]; exact this)
  have hy : W3.heap[N + 1]? = some (.cells #[.int .i64 p, .int .i64 q] 92 (0, 0)) := by
    have := heap_alloc_new (w.alloc (.cells #[.slice a0 m.length c0, .slice a1 n.length c1] 58)) (.cells #[.int .i64 p, .int .i64 q] 92)
    simp only [World.size_alloc, hN] at this
    rw [← hW3, heap_alloc_old _ _ (by simp; omega)]; exact this
  have y0 : W3.cell? ⟨N + 1, 0, none⟩ = some (.int .i64 p) := (cell_of_row _ _ 0 _ _ _ hy).trans rfl
  have y1 : W3.cell? ⟨N + 1, 1, none⟩ = some (.int .i64 q) := (cell_of_row _ _ 1 _ _ _ hy).trans rfl
  clear hy
  have HB0 : Hid (Below N w W3) := Lib.hid (by
    rw [← hW3]
    exact (((Below.refl _ w).alloc (by omega) _).alloc (by simp; omega) _).alloc (by simp; omega) _)
  rw [hN]
  go_enter Try.func39, Try.ntmps39
  go_wp2
  clear hW3 y0 y1
  go_loopw [9] (fun z wr => ∃ k : Nat, z = .int .i64 k ∧ k ≤ 2 ∧ Hid (wr.heap[N]? = some (.cells #[.slice a0 m.length c0, .slice a1 n.length c1] 58 (0, 0))) ∧ Hid (wr.heap[N + 1 + 1]? = some (.cells #[.int .u64 (if 0 < k then accS m p else 0 : Nat), .int .u64 (if 1 < k then accS n q else 0 : Nat)] 98 (0, 0))) ∧ Hid (Below N w wr)) (fun z _ => 2 - (intOf z).toNat)
  case atStart => exact ⟨0, rfl, by omega, HC0, HE0, HB0⟩
  case round =>
    clear HC0 HE0 HB0
    obtain ⟨k, rfl, hk, HC, HE, HB⟩ := hrel
    have p0 : wr.cell? ⟨N, 0, none⟩ = some (.slice a0 m.length c0) := (cell_of_row _ _ 0 _ _ _ HC.out).trans rfl
    have p1 : wr.cell? ⟨N, 1, none⟩ = some (.slice a1 n.length c1) := (cell_of_row _ _ 1 _ _ _ HC.out).trans rfl
    rcases (show k = 0 ∨ k = 1 ∨ k = 2 by omega) with rfl | rfl | rfl
    · have e0 : wr.cell? ⟨N + 1 + 1, 0, none⟩ = some (.int .u64 0) := (cell_of_row _ _ 0 _ _ _ HE.out).trans rfl
      have f0 : wr.frozen? ⟨N + 1 + 1, 0, none⟩ = false := frozen_row (j := 0) HE.out
      rcases HP.out with rfl | ⟨i, rfl, hi⟩
      · have HZ := Lib.hid (accS_none (m := m) (s := -1) (.inl (by omega)))
        have HE1 : Hid (wr.heap[N + 1 + 1]? = some (.cells #[.int .u64 (if 0 < 0 + 1 then accS m (-1) else 0 : Nat), .int .u64 (if 1 < 0 + 1 then accS n q else 0 : Nat)] 98 (0, 0))) := Lib.hid (by rw [HZ.out]; exact HE.out)
        go_wp2_with (refine wpList_index 92 0 _ _ (idx0 _ _) rfl _ _ rfl rfl rfl ?_)
        go_roundw
        case rel => exact ⟨0 + 1, rfl, by omega, HC, HE1, HB⟩
        case measure => simp [intOf]
      · obtain ⟨b, o, va, rfl, x0, x1, ha⟩ := (HV.out wr HB.out).at rfl hi
        have HZ := Lib.hid (accS_at hi)
        have hq9 : ((i : Int) != -1) = true := by rw [bne_iff_ne]; omega
        have hil : (i : Int) < m.length := by omega
        have HE1 : Hid ((wr.setCell ⟨N + 1 + 1, 0, none⟩ (.int .u64 (m[i].acc : Nat))).heap[N + 1 + 1]? = some (.cells #[.int .u64 (if 0 < 0 + 1 then accS m i else 0 : Nat), .int .u64 (if 1 < 0 + 1 then accS n q else 0 : Nat)] 98 (0, 0))) := Lib.hid (by rw [HZ.out, setCell_block HE.out]; rfl)
        have HC1 : Hid ((wr.setCell ⟨N + 1 + 1, 0, none⟩ (.int .u64 (m[i].acc : Nat))).heap[N]? = some (.cells #[.slice (some ⟨b, o, none⟩) m.length c0, .slice a1 n.length c1] 58 (0, 0))) := Lib.hid (by rw [Below.heap_setCell _ _ _ _ (by show N ≠ N + 1 + 1; omega)]; exact HC.out)
        have HB1 := Lib.hid (HB.out.setCell (p := ⟨N + 1 + 1, 0, none⟩) (by show N ≤ N + 1 + 1; omega) (.int .u64 (m[i].acc : Nat)))
        clear ha x1
        generalize m[i].acc = ac at *
        go_wp2_with (refine wpList_index 92 0 _ _ (idx0 _ _) rfl _ _ rfl rfl rfl ?_)
        go_roundw
        case rel => exact ⟨0 + 1, rfl, by omega, HC1, HE1, HB1⟩
        case measure => simp [intOf]
    · have e1 : wr.cell? ⟨N + 1 + 1, 1, none⟩ = some (.int .u64 0) := (cell_of_row _ _ 1 _ _ _ HE.out).trans rfl
      have f1 : wr.frozen? ⟨N + 1 + 1, 1, none⟩ = false := frozen_row (j := 1) HE.out
      rcases HQ.out with rfl | ⟨i, rfl, hi⟩
      · have HZ := Lib.hid (accS_none (m := n) (s := -1) (.inl (by omega)))
        have HE1 : Hid (wr.heap[N + 1 + 1]? = some (.cells #[.int .u64 (if 0 < 1 + 1 then accS m p else 0 : Nat), .int .u64 (if 1 < 1 + 1 then accS n (-1) else 0 : Nat)] 98 (0, 0))) := Lib.hid (by rw [HZ.out]; exact HE.out)
        go_wp2_with (refine wpList_index 92 1 _ _ (idx1 _ _) rfl _ _ rfl rfl rfl ?_)
        go_roundw
        case rel => exact ⟨1 + 1, rfl, by omega, HC, HE1, HB⟩
        case measure => simp [intOf]
      · obtain ⟨b, o, va, rfl, x0, x1, ha⟩ := (HU.out wr HB.out).at rfl hi
        have HZ := Lib.hid (accS_at hi)
        have hq9 : ((i : Int) != -1) = true := by rw [bne_iff_ne]; omega
        have hil : (i : Int) < n.length := by omega
        have HE1 : Hid ((wr.setCell ⟨N + 1 + 1, 1, none⟩ (.int .u64 (n[i].acc : Nat))).heap[N + 1 + 1]? = some (.cells #[.int .u64 (if 0 < 1 + 1 then accS m p else 0 : Nat), .int .u64 (if 1 < 1 + 1 then accS n i else 0 : Nat)] 98 (0, 0))) := Lib.hid (by rw [HZ.out, setCell_block HE.out]; rfl)
        have HC1 : Hid ((wr.setCell ⟨N + 1 + 1, 1, none⟩ (.int .u64 (n[i].acc : Nat))).heap[N]? = some (.cells #[.slice a0 m.length c0, .slice (some ⟨b, o, none⟩) n.length c1] 58 (0, 0))) := Lib.hid (by rw [Below.heap_setCell _ _ _ _ (by show N ≠ N + 1 + 1; omega)]; exact HC.out)
        have HB1 := Lib.hid (HB.out.setCell (p := ⟨N + 1 + 1, 1, none⟩) (by show N ≤ N + 1 + 1; omega) (.int .u64 (n[i].acc : Nat)))
        clear ha x1
        generalize n[i].acc = ac at *
        go_wp2_with (refine wpList_index 92 1 _ _ (idx1 _ _) rfl _ _ rfl rfl rfl ?_)
        go_roundw
        case rel => exact ⟨1 + 1, rfl, by omega, HC1, HE1, HB1⟩
        case measure => simp [intOf]
    · have e0 : wr.cell? ⟨N + 1 + 1, 0, none⟩ = some (.int .u64 (accS m p : Nat)) := (cell_of_row _ _ 0 _ _ _ HE.out).trans rfl
      have e1 : wr.cell? ⟨N + 1 + 1, 1, none⟩ = some (.int .u64 (accS n q : Nat)) := (cell_of_row _ _ 1 _ _ _ HE.out).trans rfl
      have HD := Lib.hid (acc_ne (accS m p) (accS n q))
      clear HP HQ HE HC
      obtain ⟨x, hx⟩ : ∃ x, accS m p = x := ⟨_, rfl⟩
      obtain ⟨y, hy⟩ : ∃ y, accS n q = y := ⟨_, rfl⟩
      rw [hx] at e0 HD
      rw [hy] at e1 HD
      have HX := Lib.hid hx
      have HY := Lib.hid hy
      clear hx hy
      go_wp2
      exact bodyPost_ret (v := .bool (decide (x ≠ y))) (by rw [HD.out]; simp [results, Try.results39, go_sem]) rfl ⟨by rw [HX.out, HY.out], HB.out⟩
end Go.Proofs.Ytamgldhnfcikbaa
set_option maxRecDepth 100000
namespace Go.Proofs.Ytamgldhnfcikbaa
open Go.RowKit

theorem cidx0 (p q : Value) (w : World) : (Instr.index 58 (.agg #[p, q]) (.int .i64 0)).run Try.prog w = .ok p w := by kernel_rfl
theorem cidx1 (p q : Value) (w : World) : (Instr.index 58 (.agg #[p, q]) (.int .i64 1)).run Try.prog w = .ok q w := by kernel_rfl
def startS (m : List Sta) : Int := if m.length = 0 then -1 else 0
set_option linter.unusedSimpArgs false in
set_option maxHeartbeats 4000000 in
theorem first_any (m n : List Sta) (a0 a1 : Option Addr) (c0 c1 : Nat) (w : World) :
    Calls Try.prog 56 #[.agg #[.slice a0 m.length c0, .slice a1 n.length c1]] w fun e w' => e = .returned (.agg #[.int .i64 (startS m), .int .i64 (startS n)]) ∧ Below w.heap.size w w' := by
  obtain ⟨N, hN⟩ : ∃ N, w.heap.size = N := ⟨_, rfl⟩
  obtain ⟨W3, hW3⟩ : ∃ W3, ((w.alloc (.cells #[.slice a0 m.length c0, .slice a1 n.length c1] 58)).alloc (.cells #[.int .i64 0, .int .i64 0] 92)).alloc (.cells #[.int .i64 0, .int .i64 0] 92) = W3 := ⟨_, rfl⟩
  have hC0 : W3.heap[N]? = some (.cells #[.slice a0 m.length c0, .slice a1 n.length c1] 58 (0, 0)) := by
    rw [← hW3, heap_alloc_old _ _ (by simp; omega), heap_alloc_old _ _ (by simp; omega), ← hN]; exact heap_alloc_new w _
  have HE0 : Hid (W3.heap[N + 1 + 1]? = some (.cells #[.int .i64 0, .int .i64 0] 92 (0, 0))) := Lib.hid (by
    have := heap_alloc_new ((w.alloc (.cells #[.slice a0 m.length c0, .slice a1 n.length c1] 58)).alloc (.cells #[.int .i64 0, .int .i64 0] 92)) (.cells #[.int .i64 0, .int .i64 0] 92)
    simp only [World.size_alloc, hN] at this
    rw [← hW3]; exact this)
  have HR0 : Hid (W3.heap[N + 1]? = some (.cells #[.int .i64 0, .int .i64 0] 92 (0, 0))) := Lib.hid (by
    have := heap_alloc_new (w.alloc (.cells #[.slice a0 m.length c0, .slice a1 n.length c1] 58)) (.cells #[.int .i64 0, .int .i64 0] 92)
    simp only [World.size_alloc, hN] at this
    rw [← hW3, heap_alloc_old _ _ (by simp; omega)]; exact this)
  have y0 : W3.cell? ⟨N, 0, none⟩ = some (.slice a0 m.length c0) := (cell_of_row _ _ 0 _ _ _ hC0).trans rfl
  have y1 : W3.cell? ⟨N, 1, none⟩ = some (.slice a1 n.length c1) := (cell_of_row _ _ 1 _ _ _ hC0).trans rfl
  have HB0 : Hid (Below N w W3) := Lib.hid (by
    rw [← hW3]
    exact (((Below.refl _ w).alloc (by omega) _).alloc (by simp; omega) _).alloc (by simp; omega) _)
  clear hC0
  rw [hN]
  go_enter Try.func56, Try.ntmps56
  go_wp2
  clear hW3 y0 y1
  go_loopw [7] (fun z wr => ∃ k : Nat, z = .int .i64 k ∧ k ≤ 2 ∧ Hid (wr.heap[N + 1 + 1]? = some (.cells #[.int .i64 (if 0 < k then startS m else 0), .int .i64 (if 1 < k then startS n else 0)] 92 (0, 0))) ∧ Hid (wr.heap[N + 1]? = some (.cells #[.int .i64 0, .int .i64 0] 92 (0, 0))) ∧ Hid (Below N w wr)) (fun z _ => 2 - (intOf z).toNat)
  case atStart => exact ⟨0, rfl, by omega, HE0, HR0, HB0⟩
  case round =>
    clear HE0 HB0 HR0
    obtain ⟨k, rfl, hk, HE, HR, HB⟩ := hrel
    rcases (show k = 0 ∨ k = 1 ∨ k = 2 by omega) with rfl | rfl | rfl
    · have e0 : wr.cell? ⟨N + 1 + 1, 0, none⟩ = some (.int .i64 0) := (cell_of_row _ _ 0 _ _ _ HE.out).trans rfl
      have f0 : wr.frozen? ⟨N + 1 + 1, 0, none⟩ = false := frozen_row (j := 0) HE.out
      by_cases hm : m.length = 0
      · have HZ := Lib.hid (show startS m = -1 from if_pos hm)
        have hz : ((m.length : Int) == 0) = true := by rw [beq_iff_eq]; omega
        have hz2 : (m.length == 0) = true := by rw [beq_iff_eq]; exact hm
        have HE1 : Hid ((wr.setCell ⟨N + 1 + 1, 0, none⟩ (.int .i64 (-1))).heap[N + 1 + 1]? = some (.cells #[.int .i64 (if 0 < 0 + 1 then startS m else 0), .int .i64 (if 1 < 0 + 1 then startS n else 0)] 92 (0, 0))) := Lib.hid (by rw [HZ.out, setCell_block HE.out]; rfl)
        have HR1 : Hid ((wr.setCell ⟨N + 1 + 1, 0, none⟩ (.int .i64 (-1))).heap[N + 1]? = some (.cells #[.int .i64 0, .int .i64 0] 92 (0, 0))) := Lib.hid (by rw [Below.heap_setCell _ _ _ _ (by show N + 1 ≠ N + 1 + 1; omega)]; exact HR.out)
        have HB1 := Lib.hid (HB.out.setCell (p := ⟨N + 1 + 1, 0, none⟩) (by show N ≤ N + 1 + 1; omega) (.int .i64 (-1)))
        clear hm
        go_wp2_with (refine wpList_index 58 0 _ _ (cidx0 _ _) rfl _ _ rfl rfl rfl ?_)
        go_roundw
        case rel => exact ⟨0 + 1, rfl, by omega, HE1, HR1, HB1⟩
        case measure => simp [intOf]
      · have HZ := Lib.hid (show startS m = 0 from if_neg hm)
        have hz : ((m.length : Int) == 0) = false := by rw [beq_eq_false_iff_ne]; omega
        have hz2 : (m.length == 0) = false := by rw [beq_eq_false_iff_ne]; exact hm
        have HE1 : Hid (wr.heap[N + 1 + 1]? = some (.cells #[.int .i64 (if 0 < 0 + 1 then startS m else 0), .int .i64 (if 1 < 0 + 1 then startS n else 0)] 92 (0, 0))) := Lib.hid (by rw [HZ.out]; exact HE.out)
        go_wp2_with (refine wpList_index 58 0 _ _ (cidx0 _ _) rfl _ _ rfl rfl rfl ?_)
        go_roundw
        case rel => exact ⟨0 + 1, rfl, by omega, HE1, HR, HB⟩
        case measure => simp [intOf]
    · have e1 : wr.cell? ⟨N + 1 + 1, 1, none⟩ = some (.int .i64 0) := (cell_of_row _ _ 1 _ _ _ HE.out).trans rfl
      have f1 : wr.frozen? ⟨N + 1 + 1, 1, none⟩ = false := frozen_row (j := 1) HE.out
      by_cases hm : n.length = 0
      · have HZ := Lib.hid (show startS n = -1 from if_pos hm)
        have hz : ((n.length : Int) == 0) = true := by rw [beq_iff_eq]; omega
        have hz2 : (n.length == 0) = true := by rw [beq_iff_eq]; exact hm
        have HE1 : Hid ((wr.setCell ⟨N + 1 + 1, 1, none⟩ (.int .i64 (-1))).heap[N + 1 + 1]? = some (.cells #[.int .i64 (if 0 < 1 + 1 then startS m else 0), .int .i64 (if 1 < 1 + 1 then startS n else 0)] 92 (0, 0))) := Lib.hid (by rw [HZ.out, setCell_block HE.out]; rfl)
        have HR1 : Hid ((wr.setCell ⟨N + 1 + 1, 1, none⟩ (.int .i64 (-1))).heap[N + 1]? = some (.cells #[.int .i64 0, .int .i64 0] 92 (0, 0))) := Lib.hid (by rw [Below.heap_setCell _ _ _ _ (by show N + 1 ≠ N + 1 + 1; omega)]; exact HR.out)
        have HB1 := Lib.hid (HB.out.setCell (p := ⟨N + 1 + 1, 1, none⟩) (by show N ≤ N + 1 + 1; omega) (.int .i64 (-1)))
        clear hm
        go_wp2_with (refine wpList_index 58 1 _ _ (cidx1 _ _) rfl _ _ rfl rfl rfl ?_)
        go_roundw
        case rel => exact ⟨1 + 1, rfl, by omega, HE1, HR1, HB1⟩
        case measure => simp [intOf]
      · have HZ := Lib.hid (show startS n = 0 from if_neg hm)
        have hz : ((n.length : Int) == 0) = false := by rw [beq_eq_false_iff_ne]; omega
        have hz2 : (n.length == 0) = false := by rw [beq_eq_false_iff_ne]; exact hm
        have HE1 : Hid (wr.heap[N + 1 + 1]? = some (.cells #[.int .i64 (if 0 < 1 + 1 then startS m else 0), .int .i64 (if 1 < 1 + 1 then startS n else 0)] 92 (0, 0))) := Lib.hid (by rw [HZ.out]; exact HE.out)
        go_wp2_with (refine wpList_index 58 1 _ _ (cidx1 _ _) rfl _ _ rfl rfl rfl ?_)
        go_roundw
        case rel => exact ⟨1 + 1, rfl, by omega, HE1, HR, HB⟩
        case measure => simp [intOf]
    · have e0 : wr.cell? ⟨N + 1 + 1, 0, none⟩ = some (.int .i64 (startS m)) := (cell_of_row _ _ 0 _ _ _ HE.out).trans rfl
      have e1 : wr.cell? ⟨N + 1 + 1, 1, none⟩ = some (.int .i64 (startS n)) := (cell_of_row _ _ 1 _ _ _ HE.out).trans rfl
      have g0 : wr.cell? ⟨N + 1, 0, none⟩ = some (.int .i64 0) := (cell_of_row _ _ 0 _ _ _ HR.out).trans rfl
      have g1 : wr.cell? ⟨N + 1, 1, none⟩ = some (.int .i64 0) := (cell_of_row _ _ 1 _ _ _ HR.out).trans rfl
      have f0 : wr.frozen? ⟨N + 1, 0, none⟩ = false := frozen_row (j := 0) HR.out
      have f1 : wr.frozen? ⟨N + 1, 1, none⟩ = false := frozen_row (j := 1) HR.out
      have HW : Hid (((wr.setCell ⟨N + 1, 0, none⟩ (.int .i64 (startS m))).setCell ⟨N + 1, 1, none⟩ (.int .i64 (startS n))).heap[N + 1]? = some (.cells #[.int .i64 (startS m), .int .i64 (startS n)] 92 (0, 0))) := Lib.hid (by
        rw [setCell_block (setCell_block HR.out (.int .i64 (startS m))) (.int .i64 (startS n))]; rfl)
      have HBW := Lib.hid ((HB.out.setCell (p := ⟨N + 1, 0, none⟩) (Nat.le_succ N) (.int .i64 (startS m))).setCell (p := ⟨N + 1, 1, none⟩) (Nat.le_succ N) (.int .i64 (startS n)))
      obtain ⟨x, hx⟩ : ∃ x, startS m = x := ⟨_, rfl⟩
      obtain ⟨y, hy⟩ : ∃ y, startS n = y := ⟨_, rfl⟩
      rw [hx] at e0 HW HBW
      rw [hy] at e1 HW HBW
      have HX := Lib.hid hx
      have HY := Lib.hid hy
      clear hx hy HE
      go_wp2
      exact bodyPost_ret (v := .agg #[.int .i64 x, .int .i64 y]) (results_cell_row (fn := Try.f56) rfl _ _ (N + 1) _ _ _ _ rfl HW.out Try.underlying92 rfl (by kernel_rfl)) rfl ⟨by rw [HX.out, HY.out], HBW.out⟩
end Go.Proofs.Ytamgldhnfcikbaa
set_option maxRecDepth 100000
namespace Go.Proofs.Ytamgldhnfcikbaa
open Go.RowKit

def endsB (m : List Sta) (i : Nat) : Bool := decide (accS m i ≠ 0)
set_option linter.unusedSimpArgs false in
set_option maxHeartbeats 4000000 in
theorem accepting_any (v : Value) (m : List Sta) (w : World) (hv : MachAt w v m) (hn : m.length ≤ 4096) :
    Calls Try.prog 34 #[v] w fun e w' => ∃ u, e = .returned u ∧ Hid (w'.ownsRow w.heap.size 3 1 u (placesOf m.length (endsB m)).length ((placesOf m.length (endsB m)).map (Value.int .i64))) ∧ Hid (Below w.heap.size w w') := by
  obtain ⟨i0, hi0, hz0, hz1, hz2⟩ := info_parts infoI
  have HI := Lib.hid (And.intro hi0 (And.intro hz0 (And.intro hz1 hz2)))
  clear hi0 hz0 hz1 hz2
  obtain ⟨N, hN⟩ : ∃ N, w.heap.size = N := ⟨_, rfl⟩
  have hNw : N ≤ w.heap.size := by omega
  have HV := Lib.hid (show ∀ wr, Below N w wr → MachAt wr v m from fun wr hb => hv.below (by rw [hN]; exact hb))
  obtain ⟨av, cv, rfl⟩ := hv.len
  clear hv
  have HR0 : Hid (w.ownsRow N 3 1 (.slice none 0 0) (placesOf 0 (endsB m)).length ((placesOf 0 (endsB m)).map (Value.int .i64))) := Lib.hid (World.ownsRow_nil _ _ _ _)
  have HB0 := Lib.hid (Below.refl N w)
  rw [hN]
  go_enter Try.func34, Try.ntmps34
  go_wp2
  go_loopw [3, 7] (fun u z wr => ∃ k : Nat, z = .int .i64 k ∧ k ≤ m.length ∧ N ≤ wr.heap.size ∧ Hid (wr.ownsRow N 3 1 u (placesOf k (endsB m)).length ((placesOf k (endsB m)).map (Value.int .i64))) ∧ Hid (Below N w wr)) (fun _ z _ => m.length - (intOf z).toNat)
  case atStart => exact ⟨0, rfl, Nat.zero_le _, hNw, HR0, HB0⟩
  case round =>
    clear HR0 HB0 hNw
    obtain ⟨k, rfl, hk, hNr, HR, HB⟩ := hrel
    by_cases hlt : k < m.length
    · have hd : decide ((k : Int) < m.length) = true := decide_eq_true (by omega)
      have hkl : (k : Int) < m.length := by omega
      obtain ⟨b, o, va, rfl, e0, e1, ha⟩ := (HV.out wr HB.out).at rfl hlt
      have hln := placesOf_len k (endsB m)
      have HZ := Lib.hid (show endsB m k = decide (m[k].acc ≠ 0) by unfold endsB; rw [accS_at hlt])
      clear ha e1
      generalize m[k].acc = ac at *
      obtain ⟨ln, hlne⟩ : ∃ ln, (placesOf k (endsB m)).length = ln := ⟨_, rfl⟩
      by_cases hz : ac = 0
      · subst hz
        have HNO := Lib.hid (placesOf_no (show endsB m k = false by rw [HZ.out]; rfl))
        clear hlne
        go_wp2
        go_roundw
        case rel => exact ⟨k + 1, num_succ k, by omega, hNr, by rw [HNO.out]; exact HR, HB⟩
        case measure => simp [intOf]; omega
      · have q1 : ((ac : Int) != 0) = true := by rw [bne_iff_ne]; omega
        have HYES := Lib.hid (placesOf_yes (show endsB m k = true by rw [HZ.out]; exact decide_eq_true hz))
        rw [hlne] at hln HR
        obtain ⟨a3, cp3, rfl⟩ := row_form HR.out
        have HRA := Lib.hid (HR.out.alloc (.cells #[.int .i64 k] 3))
        have HLNE := Lib.hid hlne
        clear hz hlne
        go_wp2_with (at_builtin; refine wpList_append_lies _ rfl _ _ 44 rfl N 3 i0 (.int .i64 0) 1 8 Try.underlying44 HI.out.1 HI.out.2.1 HI.out.2.2.1 HI.out.2.2.2 rfl (by decide) (.slice a3 ln cp3) ln ((placesOf k (endsB m)).map (Value.int .i64)) rfl HRA.out ⟨wr.heap.size, 0, none⟩ 1 1 [.int .i64 k] rfl rfl (one_newsI (heap_alloc_new wr _)) (by simp [Value.oneCell']) (by omega) (by unfold maxLen; omega) (by omega) (by simp; omega) (wr.heap.size + 1) (by simp) ?_; intro g cap2 w8 h2 h3 h4 h5; have HP1 := Lib.hid (push3 HB.out HR.out (Nat.le_refl N) (by omega) ((Below.refl _ _).alloc (Nat.le_refl _) _) h3); have hsz8 := h3.size; have HP3 := Lib.hid h2; clear h2 h3 h4 h5)
        go_roundw
        case rel => exact ⟨k + 1, num_succ k, by omega, by simp at hsz8; omega, by
          rw [HYES.out]
          have := HP3.out
          simpa [HLNE.out] using Lib.hid this, HP1⟩
        case measure => simp [intOf]; omega
    · obtain rfl : k = m.length := by omega
      have hd : decide ((m.length : Int) < m.length) = false := by simp
      go_wp2
      exact bodyPost_ret (v := u3) (by simp [results, Try.results34, go_sem, *]) rfl ⟨u3, rfl, HR, HB⟩
end Go.Proofs.Ytamgldhnfcikbaa
set_option maxRecDepth 100000
namespace Go.Proofs.Ytamgldhnfcikbaa
open Go.RowKit

def Grid (w : World) (b n : Nat) (D : Nat → Nat → Bool) : Prop := ∀ i, i < n → ∃ bi, w.cell? ⟨b, i, none⟩ = some (.slice (some ⟨bi, 0, none⟩) n n) ∧ Blk w bi n (D i)
theorem Grid.below {w w' : World} {b n : Nat} {D : Nat → Nat → Bool} (h : Grid w b n D) (hb : Below w.heap.size w w') : Grid w' b n D := fun i hi => by
  obtain ⟨bi, h1, h2⟩ := h i hi
  exact ⟨bi, cell_below hb h1, h2.below hb⟩
def AliasP (n : Nat) (D : Nat → Nat → Bool) (s r : Int) : Prop := (r = -1 ∧ (s < 0 ∨ ∃ k : Nat, s = k ∧ D k n = false)) ∨ ∃ k : Nat, s = k ∧ D k n = true ∧ ((∃ i : Nat, i < n ∧ r = i ∧ D i k = false ∧ ∀ j, j < i → D j k = true) ∨ (r = k ∧ ∀ j, j < n → D j k = true))
set_option linter.unusedSimpArgs false in
set_option maxHeartbeats 4000000 in
theorem alias_any (b n : Nat) (D : Nat → Nat → Bool) (s : Int) (w : World) (hn : n < 100000) (hs : s < n + 1) (hD : Grid w b (n + 1) D) :
    Calls Try.prog 26 #[.slice (some ⟨b, 0, none⟩) (n + 1) (n + 1), .int .i64 s] w fun e w' => ∃ r, e = .returned (.int .i64 r) ∧ AliasP n D s r ∧ w' = w := by
  have HD := Lib.hid hD
  clear hD
  have hw9 : IntKind.i64.wrap (n : Int) = n := by rw [IntKind.wrap_i64]; omega
  have hnn : (n : Int) < (n : Int) + 1 := by omega
  by_cases h0 : s < 0
  · have d1 : decide (s < 0) = true := decide_eq_true h0
    have HR : Hid (AliasP n D s (-1)) := Lib.hid (.inl ⟨rfl, .inl h0⟩)
    go_enter Try.func26, Try.ntmps26
    go_wp2
    go_ret
    exact ⟨_, rfl, HR.out, rfl⟩
  · have d1 : decide (s < 0) = false := decide_eq_false h0
    obtain ⟨k, rfl⟩ : ∃ k : Nat, s = k := ⟨s.toNat, by omega⟩
    have hk : k < n + 1 := by omega
    obtain ⟨bk, c0, hb⟩ := HD.out k hk
    have c1 := hb.cell (Nat.lt_succ_self n)
    clear hb
    cases hkn : D k n
    · rw [hkn] at c1
      have HR : Hid (AliasP n D k (-1)) := Lib.hid (.inl ⟨rfl, .inr ⟨k, rfl, hkn⟩⟩)
      clear hkn
      go_enter Try.func26, Try.ntmps26
      go_wp2
      go_ret
      exact ⟨_, rfl, HR.out, rfl⟩
    · rw [hkn] at c1
      have HKN := Lib.hid hkn
      clear hkn
      go_enter Try.func26, Try.ntmps26
      go_wp2
      clear c0 c1
      go_loopw [6] (fun z wr => ∃ i : Nat, z = .int .i64 i ∧ i ≤ n ∧ Hid (∀ j, j < i → D j k = true) ∧ wr = w) (fun z _ => n - (intOf z).toNat)
      case atStart => exact ⟨0, rfl, Nat.zero_le _, Lib.hid (fun j hj => by omega), rfl⟩
      case round =>
        obtain ⟨i, rfl, hi, HP, rfl⟩ := hrel
        by_cases hlt : i < n
        · have hd : decide ((i : Int) < n) = true := decide_eq_true (by omega)
          have hil : (i : Int) < (n : Int) + 1 := by omega
          obtain ⟨bi, c0, hb⟩ := HD.out i (by omega)
          have c1 := hb.cell hk
          clear hb
          cases hik : D i k
          · have HR : Hid (AliasP n D k i) := Lib.hid (.inr ⟨k, rfl, HKN.out, .inl ⟨i, hlt, rfl, hik, HP.out⟩⟩)
            rw [hik] at c1
            clear hik
            go_wp2
            go_ret
            exact ⟨_, rfl, HR.out, rfl⟩
          · have HP1 := Lib.hid (show ∀ j, j < i + 1 → D j k = true from fun j hj => by
              rcases Nat.lt_succ_iff_lt_or_eq.1 hj with h1 | rfl
              · exact HP.out j h1
              · exact hik)
            rw [hik] at c1
            clear hik
            go_wp2
            go_roundw
            case rel => exact ⟨i + 1, num_succ i, by omega, HP1, trivial⟩
            case measure => simp [intOf]; omega
        · obtain rfl : i = n := by omega
          have hd : decide ((i : Int) < i) = false := by simp
          have HR : Hid (AliasP i D k k) := Lib.hid (.inr ⟨k, rfl, HKN.out, .inr ⟨rfl, HP.out⟩⟩)
          go_wp2
          go_ret
          exact ⟨_, rfl, HR.out, rfl⟩
end Go.Proofs.Ytamgldhnfcikbaa
set_option maxRecDepth 100000
namespace Go.Proofs.Ytamgldhnfcikbaa
open Go.RowKit

inductive Apart (m n : List Sta) : Int → Int → Prop
  | acc {s t : Int} (h : accS m s ≠ accS n t) : Apart m n s t
  | step {s t : Int} {b : Nat} (hb : b < 256) (h : Apart m n (nextS m s b) (nextS n t b)) : Apart m n s t
theorem apart_iff (m n : List Sta) (s t : Int) : Apart m n s t ↔ ∃ bs : List Nat, (∀ b ∈ bs, b < 256) ∧ accS m (runFrom m s bs) ≠ accS n (runFrom n t bs) := by
  constructor
  · intro h
    induction h with
    | acc h => exact ⟨[], by simp, h⟩
    | step hb _ ih =>
      obtain ⟨bs, h1, h2⟩ := ih
      exact ⟨_ :: bs, fun x hx => by
        rcases List.mem_cons.1 hx with rfl | hx
        · exact hb
        · exact h1 x hx, h2⟩
  · rintro ⟨bs, h1, h2⟩
    induction bs generalizing s t with
    | nil => exact .acc h2
    | cons b bs ih => exact .step (h1 b (by simp)) (ih _ _ (fun x hx => h1 x (by simp [hx])) h2)
theorem join_respects {α : Type} {R : Nat → Nat} {g : Nat → α} (hR : ∀ x y, R x = R y → g x = g y) {a b : Nat} (h : g a = g b) : ∀ x y, joinR R a b x = joinR R a b y → g x = g y := by
  intro x y e
  unfold joinR at e
  by_cases hx : R x = R a
  · by_cases hy : R y = R a
    · exact hR x y (hx.trans hy.symm)
    · rw [if_pos hx, if_neg hy] at e
      exact (hR x a hx).trans (h.trans (hR b y e))
  · by_cases hy : R y = R a
    · rw [if_neg hx, if_pos hy] at e
      exact (hR x b e).trans (h.symm.trans (hR a y hy.symm))
    · rw [if_neg hx, if_neg hy] at e
      exact hR x y e
def joined (R : Nat → Nat) (L : List (Nat × Nat)) : Nat → Nat := L.foldl (fun R e => joinR R e.1 e.2) R
theorem joined_respects {α : Type} {g : Nat → α} : ∀ (L : List (Nat × Nat)) {R : Nat → Nat}, (∀ x y, R x = R y → g x = g y) → (∀ e ∈ L, g e.1 = g e.2) → ∀ x y, joined R L x = joined R L y → g x = g y
  | [], _, hR, _, x, y, e => hR x y e
  | p :: L, _, hR, h, x, y, e => joined_respects L (join_respects hR (h p (by simp))) (fun q hq => h q (by simp [hq])) x y e
theorem join_keeps {R : Nat → Nat} {a b x y : Nat} (h : R x = R y) : joinR R a b x = joinR R a b y := by unfold joinR; rw [h]
theorem joined_keeps : ∀ (L : List (Nat × Nat)) {R : Nat → Nat} {x y : Nat}, R x = R y → joined R L x = joined R L y
  | [], _, _, _, h => h
  | _ :: L, _, _, _, h => joined_keeps L (join_keeps h)
theorem join_pair (R : Nat → Nat) (a b : Nat) : joinR R a b a = joinR R a b b := by
  unfold joinR
  rw [if_pos rfl]
  split <;> rfl
theorem joined_pair : ∀ (L : List (Nat × Nat)) {R : Nat → Nat} {e : Nat × Nat}, e ∈ L → joined R L e.1 = joined R L e.2
  | p :: L, R, e, he => by
    rcases List.mem_cons.1 he with rfl | he
    · exact joined_keeps L (join_pair R e.1 e.2)
    · exact joined_pair L he
theorem closed_groups {acc : Nat → Nat} {next : Nat → Nat → Nat} {L : List (Nat × Nat)} (ha : ∀ e ∈ L, acc e.1 = acc e.2) (hs : ∀ e ∈ L, ∀ b, b < 256 → joined id L (next e.1 b) = joined id L (next e.2 b)) :
    ∀ (bs : List Nat) (x y : Nat), (∀ b ∈ bs, b < 256) → joined id L x = joined id L y → acc (bs.foldl next x) = acc (bs.foldl next y) := by
  intro bs
  induction bs with
  | nil => intro x y _ e; exact joined_respects (g := acc) L (fun _ _ h => congrArg acc h) ha x y e
  | cons b bs ih =>
    intro x y hb e
    exact ih _ _ (fun z hz => hb z (by simp [hz])) (joined_respects (g := fun x => joined id L (next x b)) L (fun _ _ h => congrArg (fun z => joined id L (next z b)) h) (fun p hp => hs p hp b (hb b (by simp))) x y e)
end Go.Proofs.Ytamgldhnfcikbaa
set_option maxRecDepth 100000
namespace Go.Proofs.Ytamgldhnfcikbaa
open Go.RowKit

def code (u : List Nat) : Nat := u.foldl (fun a b => a * 256 + b + 1) 0
theorem code_from (z : List Nat) : ∀ a, z.foldl (fun a b => a * 256 + b + 1) a = a * 256 ^ z.length + code z := by
  induction z with
  | nil => intro a; simp [code]
  | cons c z ih =>
    intro a
    have h2 := ih (0 * 256 + c + 1)
    have h3 : code (c :: z) = (0 * 256 + c + 1) * 256 ^ z.length + code z := h2
    rw [List.foldl_cons, ih, h3, List.length_cons, Nat.pow_succ, Nat.add_mul, Nat.add_mul, Nat.add_mul, Nat.add_mul, Nat.mul_assoc a 256, Nat.mul_comm 256]
    omega
theorem code_append (u z : List Nat) : code (u ++ z) = code u * 256 ^ z.length + code z := by
  unfold code
  rw [List.foldl_append]
  exact code_from z _
theorem code_snoc (u : List Nat) (b : Nat) : code (u ++ [b]) = code u * 256 + b + 1 := by
  unfold code
  rw [List.foldl_append]; rfl
theorem code_lt_append {u v : List Nat} (z : List Nat) (h : code u < code v) : code (u ++ z) < code (v ++ z) := by
  rw [code_append, code_append]
  have : code u * 256 ^ z.length < code v * 256 ^ z.length := Nat.mul_lt_mul_of_pos_right h (Nat.pow_pos (by decide))
  omega
theorem code_take_le (t : List Nat) (l : Nat) : code (t.take l) ≤ code t := by
  have h : code t = code (t.take l ++ t.drop l) := by rw [List.take_append_drop]
  rw [h, code_append]
  have : code (t.take l) * 1 ≤ code (t.take l) * 256 ^ (t.drop l).length := Nat.mul_le_mul_left _ (Nat.pow_pos (by decide))
  omega
structure Walk (P : List Nat → Nat × Nat) (Q : List (List Nat)) (R : Nat → Nat) (i b : Nat) : Prop where
  head : Q[0]? = some []
  rise : Q.Pairwise fun u v => code u < code v
  below : ∀ u ∈ Q, u = [] ∨ ∃ (i' b' : Nat) (v : List Nat), Q[i']? = some v ∧ u = v ++ [b'] ∧ b' < 256 ∧ (i' < i ∨ i' = i ∧ b' < b)
  heads : R = joined id (Q.map P)
  seen : ∀ (i' b' : Nat) (v : List Nat), Q[i']? = some v → b' < 256 → (i' < i ∨ i' = i ∧ b' < b) → v ++ [b'] ∈ Q ∨ ∃ L : List (List Nat), (∀ x ∈ L, x ∈ Q ∧ code x < code (v ++ [b'])) ∧ joined id (L.map P) (P (v ++ [b'])).1 = joined id (L.map P) (P (v ++ [b'])).2
theorem Walk.start (P : List Nat → Nat × Nat) : Walk P [[]] (joined id [P []]) 0 0 :=
  ⟨rfl, List.pairwise_singleton _ _, fun u hu => .inl (by simpa using hu), rfl, fun i' b' v _ _ h => by omega⟩
theorem rise_at {Q : List (List Nat)} (h : Q.Pairwise fun u v => code u < code v) {i j : Nat} {u v : List Nat} (hi : Q[i]? = some u) (hj : Q[j]? = some v) (hij : i < j) : code u < code v := by
  obtain ⟨h1, rfl⟩ := List.getElem?_eq_some_iff.1 hi
  obtain ⟨h2, rfl⟩ := List.getElem?_eq_some_iff.1 hj
  exact List.pairwise_iff_getElem.1 h i j h1 h2 hij
theorem Walk.less {P : List Nat → Nat × Nat} {Q : List (List Nat)} {R : Nat → Nat} {i b : Nat} (h : Walk P Q R i b) {v : List Nat} (hv : Q[i]? = some v) : ∀ u ∈ Q, code u < code (v ++ [b]) := by
  intro u hu
  rw [code_snoc]
  rcases h.below u hu with rfl | ⟨i', b', v', h1, rfl, h3, h4⟩
  · exact Nat.succ_pos _
  · rw [code_snoc]
    rcases h4 with h4 | ⟨rfl, h4⟩
    · have := rise_at h.rise h1 hv h4; omega
    · rw [hv] at h1; cases h1; omega
theorem Walk.skip {P : List Nat → Nat × Nat} {Q : List (List Nat)} {R : Nat → Nat} {i b : Nat} (h : Walk P Q R i b) {v : List Nat} (hv : Q[i]? = some v) (hR : R (P (v ++ [b])).1 = R (P (v ++ [b])).2) : Walk P Q R i (b + 1) := by
  refine ⟨h.head, h.rise, fun u hu => ?_, h.heads, fun i' b' v' h1 h2 h3 => ?_⟩
  · rcases h.below u hu with h1 | ⟨i', b', v', h1, h2, h3, h4⟩
    · exact .inl h1
    · exact .inr ⟨i', b', v', h1, h2, h3, by omega⟩
  · by_cases e : i' = i ∧ b' = b
    · obtain ⟨rfl, rfl⟩ := e
      rw [hv] at h1; cases h1
      exact .inr ⟨Q, fun x hx => ⟨hx, h.less hv x hx⟩, by rw [← h.heads]; exact hR⟩
    · exact h.seen i' b' v' h1 h2 (by omega)
theorem Walk.push {P : List Nat → Nat × Nat} {Q : List (List Nat)} {R : Nat → Nat} {i b : Nat} (h : Walk P Q R i b) (hb : b < 256) {v : List Nat} (hv : Q[i]? = some v) : Walk P (Q ++ [v ++ [b]]) (joinR R (P (v ++ [b])).1 (P (v ++ [b])).2) i (b + 1) := by
  have hlt := (List.getElem?_eq_some_iff.1 hv).1
  have grow : ∀ {j : Nat} {u : List Nat}, Q[j]? = some u → (Q ++ [v ++ [b]])[j]? = some u := fun {j u} hj => by
    rw [List.getElem?_append_left (List.getElem?_eq_some_iff.1 hj).1]; exact hj
  refine ⟨grow h.head, ?_, fun u hu => ?_, ?_, fun i' b' v' h1 h2 h3 => ?_⟩
  · rw [List.pairwise_append]
    exact ⟨h.rise, List.pairwise_singleton _ _, fun u hu x hx => by
      rw [List.mem_singleton] at hx; subst hx; exact h.less hv u hu⟩
  · rcases List.mem_append.1 hu with hu | hu
    · rcases h.below u hu with h1 | ⟨i', b', v', h1, h2, h3, h4⟩
      · exact .inl h1
      · exact .inr ⟨i', b', v', grow h1, h2, h3, by omega⟩
    · rw [List.mem_singleton] at hu
      exact .inr ⟨i, b, v, grow hv, hu, hb, by omega⟩
  · rw [h.heads, List.map_append]
    unfold joined
    rw [List.foldl_append]; rfl
  · have h1' : Q[i']? = some v' := by
      rw [List.getElem?_append_left (by omega)] at h1; exact h1
    by_cases e : i' = i ∧ b' = b
    · obtain ⟨rfl, rfl⟩ := e
      rw [hv] at h1'; cases h1'
      exact .inl (by simp)
    · rcases h.seen i' b' v' h1' h2 (by omega) with h4 | ⟨L, h4, h5⟩
      · exact .inl (List.mem_append_left _ h4)
      · exact .inr ⟨L, fun x hx => ⟨List.mem_append_left _ (h4 x hx).1, (h4 x hx).2⟩, h5⟩
theorem Walk.next {P : List Nat → Nat × Nat} {Q : List (List Nat)} {R : Nat → Nat} {i : Nat} (h : Walk P Q R i 256) : Walk P Q R (i + 1) 0 := by
  refine ⟨h.head, h.rise, fun u hu => ?_, h.heads, fun i' b' v' h1 h2 h3 => h.seen i' b' v' h1 h2 (by omega)⟩
  rcases h.below u hu with h1 | ⟨i', b', v', h1, h2, h3, h4⟩
  · exact .inl h1
  · exact .inr ⟨i', b', v', h1, h2, h3, by omega⟩
theorem Walk.bytes {P : List Nat → Nat × Nat} {Q : List (List Nat)} {R : Nat → Nat} {i b : Nat} (h : Walk P Q R i b) : ∀ u ∈ Q, ∀ x ∈ u, x < 256 := by
  suffices H : ∀ (n : Nat) (u : List Nat), u.length = n → u ∈ Q → ∀ x ∈ u, x < 256 from fun u => H _ u rfl
  intro n
  induction n with
  | zero => intro u hu _ x hx; rw [List.eq_nil_of_length_eq_zero hu] at hx; cases hx
  | succ n ih =>
    intro u hu hq x hx
    rcases h.below u hq with rfl | ⟨i', b', v, h1, rfl, h3, _⟩
    · cases hx
    · rcases List.mem_append.1 hx with hx | hx
      · exact ih v (by simpa using hu) (List.mem_of_getElem? h1) x hx
      · rw [List.mem_singleton] at hx; omega
theorem Walk.least {acc : Nat → Nat} {next : Nat → Nat → Nat} {P : List Nat → Nat × Nat} {Q : List (List Nat)} {R : Nat → Nat} {i : Nat}
    (hP : ∀ u z, P (u ++ z) = (z.foldl next (P u).1, z.foldl next (P u).2)) (h : Walk P Q R i 0) {u : List Nat} (hu : Q[i]? = some u)
    (hno : ∀ (j : Nat) (v : List Nat), Q[j]? = some v → j < i → acc (P v).1 = acc (P v).2) :
    ∀ (t : List Nat), (∀ b ∈ t, b < 256) → acc (P t).1 ≠ acc (P t).2 → code u ≤ code t := by
  suffices H : ∀ (N : Nat) (t : List Nat), code t = N → (∀ b ∈ t, b < 256) → acc (P t).1 ≠ acc (P t).2 → code u ≤ code t from fun t => H _ t rfl
  intro N
  induction N using Nat.strongRecOn with
  | ind N ih =>
    intro t hN hb hd
    rcases Nat.lt_or_ge (code t) (code u) with hlt | hge
    · exfalso
      have key : ∀ l, l ≤ t.length → ∃ j, j < i ∧ Q[j]? = some (t.take l) := by
        intro l
        induction l with
        | zero =>
          intro _
          refine ⟨0, ?_, by rw [List.take_zero]; exact h.head⟩
          rcases Nat.eq_zero_or_pos i with rfl | hi
          · have := h.head; rw [hu] at this; cases this
            exact absurd hlt (Nat.not_lt_zero _)
          · exact hi
        | succ l ihl =>
          intro hl
          obtain ⟨j, hj, hq⟩ := ihl (by omega)
          have hc : t[l]'(by omega) < 256 := hb _ (List.getElem_mem _)
          have htk : t.take l ++ [t[l]'(by omega)] = t.take (l + 1) := (List.take_succ_eq_append_getElem (by omega)).symm
          have hs := h.seen j _ _ hq hc (.inl hj)
          rw [htk] at hs
          have hin : t.take (l + 1) ∈ Q := by
            rcases hs with hs | ⟨L, h1, h2⟩
            · exact hs
            · exfalso
              have hsplit : t = t.take (l + 1) ++ t.drop (l + 1) := (List.take_append_drop _ _).symm
              have hg := joined_respects (g := fun x => acc ((t.drop (l + 1)).foldl next x)) (L.map P) (R := id) (fun x y e => by
                have e : x = y := e
                rw [e]) (fun e he => by
                obtain ⟨x, hx, rfl⟩ := List.mem_map.1 he
                have hlt2 : code (x ++ t.drop (l + 1)) < code t := by
                  have := code_lt_append (t.drop (l + 1)) (h1 x hx).2
                  rwa [← hsplit] at this
                have hxb : ∀ b ∈ x ++ t.drop (l + 1), b < 256 := fun b hbm => by
                  rcases List.mem_append.1 hbm with hbm | hbm
                  · exact Walk.bytes h x (h1 x hx).1 b hbm
                  · exact hb b (List.mem_of_mem_drop hbm)
                have hpx := hP x (t.drop (l + 1))
                by_cases hdx : acc (P (x ++ t.drop (l + 1))).1 = acc (P (x ++ t.drop (l + 1))).2
                · rw [hpx] at hdx; exact hdx
                · have := ih _ (hN ▸ hlt2) _ rfl hxb hdx
                  omega) _ _ h2
              have hpt := hP (t.take (l + 1)) (t.drop (l + 1))
              rw [← hsplit] at hpt
              rw [hpt] at hd
              exact hd hg
          obtain ⟨k, hk, hke⟩ := List.getElem_of_mem hin
          have hq2 : Q[k]? = some (t.take (l + 1)) := by rw [List.getElem?_eq_getElem hk, hke]
          refine ⟨k, ?_, hq2⟩
          rcases Nat.lt_trichotomy k i with hki | rfl | hki
          · exact hki
          · rw [hu] at hq2; cases hq2
            have := code_take_le t (l + 1); omega
          · have h5 := rise_at h.rise hu hq2 hki
            have := code_take_le t (l + 1); omega
      obtain ⟨j, hj, hq⟩ := key t.length (Nat.le_refl _)
      rw [List.take_length] at hq
      exact hd (hno j t hq hj)
    · exact hge
theorem Walk.none {acc : Nat → Nat} {next : Nat → Nat → Nat} {P : List Nat → Nat × Nat} {Q : List (List Nat)} {R : Nat → Nat}
    (hP : ∀ u z, P (u ++ z) = (z.foldl next (P u).1, z.foldl next (P u).2)) (h : Walk P Q R Q.length 0)
    (hno : ∀ v ∈ Q, acc (P v).1 = acc (P v).2) :
    ∀ (t : List Nat), (∀ b ∈ t, b < 256) → acc (P t).1 = acc (P t).2 := by
  intro t hb
  have h0 : joined id (Q.map P) (P []).1 = joined id (Q.map P) (P []).2 := joined_pair _ (List.mem_map_of_mem (List.mem_of_getElem? h.head))
  have := closed_groups (acc := acc) (next := next) (L := Q.map P) (fun e he => by
      obtain ⟨v, hv, rfl⟩ := List.mem_map.1 he
      exact hno v hv) (fun e he b hb => by
      obtain ⟨v, hv, rfl⟩ := List.mem_map.1 he
      obtain ⟨j, hj, hje⟩ := List.getElem_of_mem hv
      have hq : Q[j]? = some v := by rw [List.getElem?_eq_getElem hj, hje]
      have hpv : P (v ++ [b]) = (next (P v).1 b, next (P v).2 b) := hP v [b]
      have hs := h.seen j b v hq hb (.inl hj)
      rw [hpv] at hs
      rcases hs with hs | ⟨L, h1, h2⟩
      · have := joined_pair (R := id) (Q.map P) (e := P (v ++ [b])) (List.mem_map_of_mem hs)
        rw [hpv] at this
        exact this
      · exact joined_respects (g := joined id (Q.map P)) (L.map P) (R := id) (fun x y e => by
          have e : x = y := e
          rw [e]) (fun e he => by
          obtain ⟨x, hx, rfl⟩ := List.mem_map.1 he
          exact joined_pair _ (List.mem_map_of_mem (h1 x hx).1)) _ _ h2) t _ _ hb h0
  have hpt := hP [] t
  rw [List.nil_append] at hpt
  rw [hpt]
  exact this
end Go.Proofs.Ytamgldhnfcikbaa
set_option maxRecDepth 100000
namespace Go.Proofs.Ytamgldhnfcikbaa
open Go.RowKit

def heads (n : Nat) (R : Nat → Nat) : Nat := unm n fun i => decide (R i ≠ i)
theorem join_heads {r : Nat → Nat} {n x y : Nat} {A R : Nat → Nat} (h : UF r n A R) (hx : x < n) (hy : y < n) (hne : R x ≠ R y) : heads n (joinR R x y) + 1 = heads n R := by
  obtain ⟨_, x2, _, x4, _, _⟩ := h x hx
  obtain ⟨_, y2, _, y4, _, _⟩ := h y hy
  have xx : R (R x) = R x := (h _ x2).2.2.2.2.2 x4
  have yy : R (R y) = R y := (h _ y2).2.2.2.2.2 y4
  unfold heads
  refine unm_one (s := R x) x2 (by simp [xx]) ?_ ?_
  · unfold joinR
    rw [xx, if_pos rfl]
    exact decide_eq_true fun e => hne e.symm
  · intro i hi hix
    unfold joinR
    by_cases e : R i = R x
    · rw [if_pos e, decide_eq_true (show R i ≠ i from fun e2 => hix (e2.symm.trans e)), decide_eq_true]
      intro e2
      apply hne
      rw [← e, ← e2, yy]
    · rw [if_neg e]
theorem heads_alone : ∀ n, heads n (fun i => i) = n
  | 0 => rfl
  | n + 1 => by
    show heads n (fun i => i) + _ = n + 1
    rw [heads_alone n]
    simp
theorem code_inj : ∀ (n : Nat) (u v : List Nat), u.length = n → (∀ b ∈ u, b < 256) → (∀ b ∈ v, b < 256) → code u = code v → u = v := by
  intro n
  induction n with
  | zero =>
    intro u v hu _ _ h
    have hu := List.eq_nil_of_length_eq_zero hu
    subst hu
    rcases List.eq_nil_or_concat v with rfl | ⟨v', c, hv⟩
    · rfl
    · rw [hv] at h
      simp only [List.concat_eq_append] at h
      rw [code_snoc] at h
      have : code [] = 0 := rfl
      omega
  | succ n ih =>
    intro u v hu hub hvb h
    rcases List.eq_nil_or_concat u with rfl | ⟨u', b, rfl⟩
    · simp at hu
    · simp only [List.concat_eq_append] at hu hub h ⊢
      rcases List.eq_nil_or_concat v with rfl | ⟨v', c, rfl⟩
      · rw [code_snoc] at h
        have : code [] = 0 := rfl
        omega
      · simp only [List.concat_eq_append] at hvb h ⊢
        rw [code_snoc, code_snoc] at h
        have hb := hub b (by simp)
        have hc := hvb c (by simp)
        have e1 : code u' = code v' := by omega
        have e2 : b = c := by omega
        rw [ih u' v' (by simpa using hu) (fun x hx => hub x (by simp [hx])) (fun x hx => hvb x (by simp [hx])) e1, e2]
end Go.Proofs.Ytamgldhnfcikbaa
set_option maxRecDepth 100000
namespace Go.Proofs.Ytamgldhnfcikbaa
open Go.RowKit

theorem firstTo_in (l : List Arc3) (b : Nat) : firstTo l b = -1 ∨ ∃ a ∈ l, a.has b = true ∧ firstTo l b = a.dest := by
  induction l with
  | nil => exact .inl rfl
  | cons a l ih =>
    unfold firstTo
    cases h : a.has b
    · rw [if_neg (by simp)]
      rcases ih with ih | ⟨x, hx, h1, h2⟩
      · exact .inl ih
      · exact .inr ⟨x, List.mem_cons_of_mem _ hx, h1, h2⟩
    · rw [if_pos rfl]
      exact .inr ⟨a, by simp, h, rfl⟩
def At (m : List Sta) (s : Int) : Prop := s = -1 ∨ ∃ k : Nat, s = k ∧ k < m.length
theorem next_at {m : List Sta} (hm : ∀ s ∈ m, fitsB m.length s.arcs = true) (s : Int) (b : Nat) : At m (nextS m s b) := by
  unfold nextS
  by_cases h : 0 ≤ s ∧ s.toNat < m.length
  · rw [dif_pos h]
    rcases firstTo_in m[s.toNat].arcs b with e | ⟨a, ha, _, e⟩
    · exact .inl e
    · obtain ⟨i, hi, rfl⟩ := List.mem_iff_getElem.1 ha
      have := fits_arc (hm _ (List.getElem_mem h.2)) hi
      exact .inr ⟨(m[s.toNat].arcs[i]).dest.toNat, by rw [e]; omega, by omega⟩
  · rw [dif_neg h]; exact .inl rfl
theorem start_at (m : List Sta) : At m (startS m) := by
  unfold startS
  by_cases h : m.length = 0
  · rw [if_pos h]; exact .inl rfl
  · rw [if_neg h]; exact .inr ⟨0, rfl, by omega⟩
theorem from_at {m : List Sta} (hm : ∀ s ∈ m, fitsB m.length s.arcs = true) {s : Int} (hs : At m s) (u : List Nat) : At m (runFrom m s u) := by
  induction u generalizing s with
  | nil => exact hs
  | cons b u ih => exact ih (next_at hm s b)
theorem runS_start (m : List Sta) (u : List Nat) : runS m u = runFrom m (startS m) u := rfl
theorem run_at {m : List Sta} (hm : ∀ s ∈ m, fitsB m.length s.arcs = true) (u : List Nat) : At m (runS m u) := from_at hm (start_at m) u
def mk (la j : Nat) (s : Int) : Nat := if s < 0 then 0 else 1 + j * la + s.toNat
theorem mk_none (la j : Nat) : mk la j (-1) = 0 := rfl
theorem mk_some (la j k : Nat) : mk la j k = 1 + j * la + k := by unfold mk; rw [if_neg (by omega)]; simp
theorem markN_mk {la j : Nat} {s : Int} {m : List Sta} (h : At m s) : markN la j s = (mk la j s : Nat) := by
  rcases h with rfl | ⟨k, rfl, _⟩
  · rfl
  · rw [mk_some]; unfold markN; rw [if_neg (by omega)]; simp
def accM (m n : List Sta) (x : Nat) : Nat := if x = 0 then 0 else if x ≤ m.length then accS m ((x - 1 : Nat) : Int) else accS n ((x - 1 - m.length : Nat) : Int)
def nextM (m n : List Sta) (x b : Nat) : Nat := if x = 0 then 0 else if x ≤ m.length then mk m.length 0 (nextS m ((x - 1 : Nat) : Int) b) else mk m.length 1 (nextS n ((x - 1 - m.length : Nat) : Int) b)
theorem accM_left {m n : List Sta} {s : Int} (h : At m s) : accM m n (mk m.length 0 s) = accS m s := by
  rcases h with rfl | ⟨k, rfl, hk⟩
  · rw [mk_none, accS_none (.inl (by omega))]; rfl
  · rw [mk_some]; unfold accM
    rw [if_neg (by omega), if_pos (by omega), show 1 + 0 * m.length + k - 1 = k by omega]
theorem accM_right {m n : List Sta} {s : Int} (h : At n s) : accM m n (mk m.length 1 s) = accS n s := by
  rcases h with rfl | ⟨k, rfl, hk⟩
  · rw [mk_none, accS_none (.inl (by omega))]; rfl
  · rw [mk_some]; unfold accM
    rw [if_neg (by omega), if_neg (by omega), show 1 + 1 * m.length + k - 1 - m.length = k by omega]
theorem nextM_left {m n : List Sta} {s : Int} (h : At m s) (b : Nat) : nextM m n (mk m.length 0 s) b = mk m.length 0 (nextS m s b) := by
  rcases h with rfl | ⟨k, rfl, hk⟩
  · rw [mk_none, next_nowhere, mk_none]; rfl
  · rw [mk_some]; unfold nextM
    rw [if_neg (by omega), if_pos (by omega), show 1 + 0 * m.length + k - 1 = k by omega]
theorem nextM_right {m n : List Sta} {s : Int} (h : At n s) (b : Nat) : nextM m n (mk m.length 1 s) b = mk m.length 1 (nextS n s b) := by
  rcases h with rfl | ⟨k, rfl, hk⟩
  · rw [mk_none, next_nowhere, mk_none]; rfl
  · rw [mk_some]; unfold nextM
    rw [if_neg (by omega), if_neg (by omega), show 1 + 1 * m.length + k - 1 - m.length = k by omega]
theorem mk_lt {m : List Sta} {s : Int} (h : At m s) (k : Nat) : mk m.length 0 s < m.length + k + 1 := by
  rcases h with rfl | ⟨i, rfl, hi⟩
  · rw [mk_none]; omega
  · rw [mk_some]; omega
theorem mk_lt1 {n : List Sta} {s : Int} (h : At n s) (la : Nat) : mk la 1 s < la + n.length + 1 := by
  rcases h with rfl | ⟨i, rfl, hi⟩
  · rw [mk_none]; omega
  · rw [mk_some]; omega
def prT (m n : List Sta) (u : List Nat) : Int × Int := (runS m u, runS n u)
def mkP (la : Nat) (p : Int × Int) : Nat × Nat := (mk la 0 p.1, mk la 1 p.2)
def prM (m n : List Sta) (u : List Nat) : Nat × Nat := mkP m.length (prT m n u)
theorem run_append (m : List Sta) (s : Int) (u z : List Nat) : runFrom m s (u ++ z) = runFrom m (runFrom m s u) z := List.foldl_append
theorem fold_left {m n : List Sta} (hm : ∀ s ∈ m, fitsB m.length s.arcs = true) : ∀ (z : List Nat) (s : Int), At m s → mk m.length 0 (runFrom m s z) = z.foldl (nextM m n) (mk m.length 0 s)
  | [], s, _ => rfl
  | b :: z, s, h => by
    rw [List.foldl_cons, nextM_left h]
    exact fold_left hm z _ (next_at hm s b)
theorem fold_right {m n : List Sta} (hn : ∀ s ∈ n, fitsB n.length s.arcs = true) : ∀ (z : List Nat) (s : Int), At n s → mk m.length 1 (runFrom n s z) = z.foldl (nextM m n) (mk m.length 1 s)
  | [], s, _ => rfl
  | b :: z, s, h => by
    rw [List.foldl_cons, nextM_right h]
    exact fold_right hn z _ (next_at hn s b)
theorem prM_append {m n : List Sta} (hm : ∀ s ∈ m, fitsB m.length s.arcs = true) (hn : ∀ s ∈ n, fitsB n.length s.arcs = true) (u z : List Nat) :
    prM m n (u ++ z) = (z.foldl (nextM m n) (prM m n u).1, z.foldl (nextM m n) (prM m n u).2) := by
  unfold prM mkP prT
  simp only [runS_start, run_append]
  rw [fold_left hm z _ (from_at hm (start_at m) u), fold_right hn z _ (from_at hn (start_at n) u)]
theorem accM_pr {m n : List Sta} (hm : ∀ s ∈ m, fitsB m.length s.arcs = true) (hn : ∀ s ∈ n, fitsB n.length s.arcs = true) (u : List Nat) :
    accM m n (prM m n u).1 = accS m (runS m u) ∧ accM m n (prM m n u).2 = accS n (runS n u) := ⟨accM_left (run_at hm u), accM_right (run_at hn u)⟩
def Dif (m n : List Sta) (t : List Nat) : Prop := accS m (runS m t) ≠ accS n (runS n t)
def DiffP (m n : List Sta) (u : List Nat) (f : Bool) : Prop :=
  (f = true ∧ (∀ b ∈ u, b < 256) ∧ Dif m n u ∧ ∀ t : List Nat, (∀ b ∈ t, b < 256) → Dif m n t → code u ≤ code t) ∨
  (f = false ∧ u = [] ∧ ∀ t : List Nat, (∀ b ∈ t, b < 256) → ¬ Dif m n t)
theorem DiffP.one {m n : List Sta} {u v : List Nat} {f g : Bool} (h : DiffP m n u f) (k : DiffP m n v g) : u = v ∧ f = g := by
  rcases h with ⟨rfl, h1, h2, h3⟩ | ⟨rfl, rfl, h1⟩ <;> rcases k with ⟨rfl, k1, k2, k3⟩ | ⟨rfl, rfl, k1⟩
  · refine ⟨?_, rfl⟩
    have e : code u = code v := Nat.le_antisymm (h3 v k1 k2) (k3 u h1 h2)
    exact code_inj _ _ _ rfl h1 k1 e
  · exact absurd h2 (k1 u h1)
  · exact absurd k2 (h1 v k1)
  · exact ⟨rfl, rfl⟩
end Go.Proofs.Ytamgldhnfcikbaa
