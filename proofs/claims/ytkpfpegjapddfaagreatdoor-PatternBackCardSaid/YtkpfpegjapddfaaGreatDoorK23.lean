/- Texts that a proof rests on: Contracts of pattern.isList, inner, levelOfList, level. -/
import Derived.Test.YtkpfpegjapddfaaGreatDoorK22
import Derived.Deep.LoopGhost
set_option maxRecDepth 20000
namespace Go.Proofs.YtkpfpegjapddfaaGreatDoor
open Go.RowKit

/-- Is it a kind of list? -/
def isL (op : Int) : Bool := op == 1 || op == 2 || op == 4
mutual
/-- A list of one kid stands for that kid. -/
def Pat.inn : Pat → Pat
  | .mk op s lo hi kids => if isL op = true ∧ kids.length = 1 then (Pat.inns kids).headD (.mk op s lo hi kids) else .mk op s lo hi kids
def Pat.inns : List Pat → List Pat
  | [] => []
  | p :: ps => p.inn :: Pat.inns ps
end
theorem inn_one {p k : Pat} (h : isL p.op = true) (hk : p.kids = [k]) : p.inn = k.inn := by
  cases p with
  | mk op s lo hi kids =>
    simp only [Pat.kids] at hk
    simp only [Pat.op] at h
    subst hk
    simp [Pat.inn, Pat.inns, h]
theorem inn_self {p : Pat} (h : ¬(isL p.op = true ∧ p.kids.length = 1)) : p.inn = p := by
  cases p with
  | mk op s lo hi kids =>
    simp only [Pat.kids, Pat.op] at h
    rw [Pat.inn, if_neg h]
theorem inn_size : ∀ (n : Nat) (p : Pat), p.size ≤ n → p.inn.size ≤ p.size ∧ ¬(isL p.inn.op = true ∧ p.inn.kids.length = 1)
  | 0, p, h => by have := size_eq p; omega
  | n + 1, p, h => by
    by_cases hl : isL p.op = true ∧ p.kids.length = 1
    · obtain ⟨k, hk⟩ := List.length_eq_one_iff.1 hl.2
      rw [inn_one hl.1 hk]
      have hs := size_eq p
      rw [hk] at hs
      simp only [Pat.sizes] at hs
      have := inn_size n k (by omega)
      exact ⟨by omega, this.2⟩
    · rw [inn_self hl]
      exact ⟨Nat.le_refl _, hl⟩
theorem isList_any (p : Pat) (ks : Value) (w : World) (v : Bool) (hv : isL p.op = v) :
    Calls Tryz.prog 68 #[(.agg #[.int .i64 p.op, .int .u64 (wd p.set 0), .int .u64 (wd p.set 1), .int .u64 (wd p.set 2), .int .u64 (wd p.set 3), .int .i64 p.lo, .int .i64 p.hi, ks])] w fun e w' => e = .returned (.bool v) ∧ Below w.heap.size w w' := by
  have hal : Below w.heap.size w (w.alloc (.cells #[.int .i64 p.op, .int .u64 (wd p.set 0), .int .u64 (wd p.set 1), .int .u64 (wd p.set 2), .int .u64 (wd p.set 3), .int .i64 p.lo, .int .i64 p.hi, ks] 28)) := (Below.refl _ _).alloc (Nat.le_refl _) _
  unfold isL at hv
  by_cases h1 : p.op = 1
  · have q1 : (p.op == 1) = true := by rw [h1]; rfl
    rw [q1] at hv
    clear h1
    simp at hv
    subst hv
    go_enter Tryz.func68, Tryz.ntmps68
    go_wp2
    go_ret
    exact ⟨rfl, hal⟩
  · have q1 : (p.op == 1) = false := by rw [beq_eq_false_iff_ne]; exact h1
    clear h1
    by_cases h2 : p.op = 2
    · have q2 : (p.op == 2) = true := by rw [h2]; rfl
      rw [q2] at hv
      clear h2
      simp at hv
      subst hv
      go_enter Tryz.func68, Tryz.ntmps68
      go_wp2
      go_ret
      exact ⟨rfl, hal⟩
    · have q2 : (p.op == 2) = false := by rw [beq_eq_false_iff_ne]; exact h2
      clear h2
      rw [q1, q2] at hv
      simp only [Bool.false_or] at hv
      go_enter Tryz.func68, Tryz.ntmps68
      go_wp2
      go_ret
      exact ⟨by rw [← hv]; rfl, hal⟩
theorem inner_start (p : Pat) (ks : Value) (w : World) : ∀ W, W = (w.alloc (.cells #[.int .i64 p.op, .int .u64 (wd p.set 0), .int .u64 (wd p.set 1), .int .u64 (wd p.set 2), .int .u64 (wd p.set 3), .int .i64 p.lo, .int .i64 p.hi, ks] 28)).alloc (.cells #[.int .i64 0, .int .u64 0, .int .u64 0, .int .u64 0, .int .u64 0, .int .i64 0, .int .i64 0, .slice none 0 0] 28) →
    Box W w.heap.size #[.int .i64 p.op, .int .u64 (wd p.set 0), .int .u64 (wd p.set 1), .int .u64 (wd p.set 2), .int .u64 (wd p.set 3), .int .i64 p.lo, .int .i64 p.hi, ks] ∧ Box W (w.heap.size + 1) z8 ∧ Below w.heap.size w W := by
  rintro W rfl
  exact ⟨(Box.new w _ rfl).alloc _, Box.new _ _ (by simp), below2 w _ _⟩
set_option maxHeartbeats 2000000 in
theorem inner_any (p : Pat) (ks : Value) (w0 w : World) (hk : Kids w0 p.kids ks) (hb : Below w0.heap.size w0 w) :
    Calls Tryz.prog 42 #[(.agg #[.int .i64 p.op, .int .u64 (wd p.set 0), .int .u64 (wd p.set 1), .int .u64 (wd p.set 2), .int .u64 (wd p.set 3), .int .i64 p.lo, .int .i64 p.hi, ks])] w fun e w' => ∃ a c, e = .returned (.agg #[.int .i64 p.inn.op, .int .u64 (wd p.inn.set 0), .int .u64 (wd p.inn.set 1), .int .u64 (wd p.inn.set 2), .int .u64 (wd p.inn.set 3), .int .i64 p.inn.lo, .int .i64 p.inn.hi, .slice a p.inn.kids.length c]) ∧ Kids w0 p.inn.kids (.slice a p.inn.kids.length c) ∧ Below w.heap.size w w' := by
  obtain ⟨ap, cp, rfl⟩ := hk.len
  go_enter Tryz.func42, Tryz.ntmps42
  go_wp2_with fail
  obtain ⟨w1, hw1⟩ : ∃ z, (w.alloc (.cells #[.int .i64 p.op, .int .u64 (wd p.set 0), .int .u64 (wd p.set 1), .int .u64 (wd p.set 2), .int .u64 (wd p.set 3), .int .i64 p.lo, .int .i64 p.hi, .slice ap p.kids.length cp] 28)).alloc (.cells #[.int .i64 0, .int .u64 0, .int .u64 0, .int .u64 0, .int .u64 0, .int .i64 0, .int .i64 0, .slice none 0 0] 28) = z := ⟨_, rfl⟩
  obtain ⟨x1, y1, b1⟩ := inner_start p (.slice ap p.kids.length cp) w w1 hw1.symm
  rw [hw1]
  clear hw1
  have hwn := hb.size
  have hb1 : Below w0.heap.size w0 w1 := hb.trans (b1.mono hb.size)
  clear hb
  generalize hn : w.heap.size = n at *
  go_loopg [] p.size (fun gk wr => ∃ (q : Pat) (a : Option Addr) (c : Nat), q.size = gk ∧ q.inn = p.inn ∧ Box wr n #[.int .i64 q.op, .int .u64 (wd q.set 0), .int .u64 (wd q.set 1), .int .u64 (wd q.set 2), .int .u64 (wd q.set 3), .int .i64 q.lo, .int .i64 q.hi, .slice a q.kids.length c] ∧ Box wr (n + 1) z8 ∧ Kids w0 q.kids (.slice a q.kids.length c) ∧ Below n w wr ∧ Below w0.heap.size w0 wr)
  case atStart => exact ⟨p, ap, cp, rfl, rfl, x1, y1, hk, b1, hb1⟩
  case round =>
    obtain ⟨q, a, c, hqk, hqi, hbx, hbr, hkq, hbw, hb0⟩ := hrel
    clear x1 y1 b1 hb1
    obtain ⟨c0, c1, c2, c3, c4, c5, c6, c7⟩ := hbx.cells
    have HQ := Lib.hid hqk
    have HI := Lib.hid hqi
    clear hqk hqi
    cases hl : isL q.op
    · have hnot : ¬(isL q.op = true ∧ q.kids.length = 1) := by simp [hl]
      go_wp2_with (go_at_call 68; (with_reducible refine (isList_any q _ _ false hl).mono ?_); rintro e w2 ⟨rfl, hb2⟩; have hx2 := hbx.below hb2; have hy2 := hbr.below hb2; obtain ⟨d0, d1, d2, d3, d4, d5, d6, d7⟩ := hx2.cells; unfold z8 at hy2; obtain ⟨e0, e1, e2, e3, e4, e5, e6, e7⟩ := hy2.cells; obtain ⟨f0, f1, f2, f3, f4, f5, f6, f7⟩ := hy2.frees; obtain ⟨g0, g1, g2, g3, g4, g5, g6, g7⟩ := hx2.frees; have hw2 : Below w0.heap.size w0 w2 := hb0.trans (hb2.mono hb0.size); have hbw2 : Below n w w2 := hbw.trans (hb2.mono (by rw [← hn]; exact hbw.size)) )
      have hy3 := hy2.store (.int .i64 q.op) (.int .u64 (wd q.set 0)) (.int .u64 (wd q.set 1)) (.int .u64 (wd q.set 2)) (.int .u64 (wd q.set 3)) (.int .i64 q.lo) (.int .i64 q.hi) (.slice a q.kids.length c)
      obtain ⟨i0, i1, i2, i3, i4, i5, i6, i7⟩ := hy3.cells
      have he : p.inn = q := HI.out.symm.trans (inn_self hnot)
      refine bodyPost_ret (v := (.agg #[.int .i64 q.op, .int .u64 (wd q.set 0), .int .u64 (wd q.set 1), .int .u64 (wd q.set 2), .int .u64 (wd q.set 3), .int .i64 q.lo, .int .i64 q.hi, .slice a q.kids.length c])) (by simp [results, Tryz.results42, go_sem, *]) rfl ?_
      rw [he, hn]
      exact ⟨a, c, rfl, hkq, below_set8 hbw2 (by omega) _ _ _ _ _ _ _ _⟩
    · by_cases h1 : q.kids.length = 1
      · obtain ⟨k, hk1⟩ := List.length_eq_one_iff.1 h1
        obtain ⟨b', o', cap, hks, hrow⟩ := hkq.row (by omega)
        have hnode : NodeAt w0 k b' o' := by
          have := hrow.at 0 (by omega)
          simpa [hk1] using this
        obtain ⟨ks2, hk2, k0, k1, k2, k3, k4, k5, k6, k7⟩ := hnode.load
        obtain ⟨a2, c2, rfl⟩ := hk2.len
        simp only [Value.slice.injEq] at hks
        obtain ⟨rfl, _, rfl⟩ := hks
        have HS := Lib.hid (inn_one hl hk1)
        have hsz : k.size < gk := by
          rw [← HQ.out, size_eq q, hk1]
          simp [Pat.sizes]
        have HK1 := Lib.hid hk1
        clear hk1
        go_wp2_with (go_at_call 68; (with_reducible refine (isList_any q _ _ true hl).mono ?_); rintro e w2 ⟨rfl, hb2⟩; have hx2 := hbx.below hb2; have hy2 := hbr.below hb2; obtain ⟨d0, d1, d2, d3, d4, d5, d6, d7⟩ := hx2.cells; unfold z8 at hy2; obtain ⟨e0, e1, e2, e3, e4, e5, e6, e7⟩ := hy2.cells; obtain ⟨f0, f1, f2, f3, f4, f5, f6, f7⟩ := hy2.frees; obtain ⟨g0, g1, g2, g3, g4, g5, g6, g7⟩ := hx2.frees; have hw2 : Below w0.heap.size w0 w2 := hb0.trans (hb2.mono hb0.size); have hbw2 : Below n w w2 := hbw.trans (hb2.mono (by rw [← hn]; exact hbw.size)) ; have k0 := cell_below hw2 k0; have k1 := cell_below hw2 k1; have k2 := cell_below hw2 k2; have k3 := cell_below hw2 k3; have k4 := cell_below hw2 k4; have k5 := cell_below hw2 k5; have k6 := cell_below hw2 k6; have k7 := cell_below hw2 k7)
        go_roundg k.size
        case measure => exact hsz
        case rel => exact ⟨k, a2, c2, rfl, HS.out.symm.trans HI.out, hx2.store (.int .i64 k.op) (.int .u64 (wd k.set 0)) (.int .u64 (wd k.set 1)) (.int .u64 (wd k.set 2)) (.int .u64 (wd k.set 3)) (.int .i64 k.lo) (.int .i64 k.hi) (.slice a2 k.kids.length c2), hy2.other8 (d := n + 1) (b := n) (by omega) (.int .i64 k.op) (.int .u64 (wd k.set 0)) (.int .u64 (wd k.set 1)) (.int .u64 (wd k.set 2)) (.int .u64 (wd k.set 3)) (.int .i64 k.lo) (.int .i64 k.hi) (.slice a2 k.kids.length c2), hk2, below_set8 hbw2 (Nat.le_refl n) (.int .i64 k.op) (.int .u64 (wd k.set 0)) (.int .u64 (wd k.set 1)) (.int .u64 (wd k.set 2)) (.int .u64 (wd k.set 3)) (.int .i64 k.lo) (.int .i64 k.hi) (.slice a2 k.kids.length c2), below_set8 hw2 hwn (.int .i64 k.op) (.int .u64 (wd k.set 0)) (.int .u64 (wd k.set 1)) (.int .u64 (wd k.set 2)) (.int .u64 (wd k.set 3)) (.int .i64 k.lo) (.int .i64 k.hi) (.slice a2 k.kids.length c2)⟩
      · have hnot : ¬(isL q.op = true ∧ q.kids.length = 1) := fun h => h1 h.2
        have h1b : ((q.kids.length : Int) == 1) = false := by rw [beq_eq_false_iff_ne]; omega
        go_wp2_with (go_at_call 68; (with_reducible refine (isList_any q _ _ true hl).mono ?_); rintro e w2 ⟨rfl, hb2⟩; have hx2 := hbx.below hb2; have hy2 := hbr.below hb2; obtain ⟨d0, d1, d2, d3, d4, d5, d6, d7⟩ := hx2.cells; unfold z8 at hy2; obtain ⟨e0, e1, e2, e3, e4, e5, e6, e7⟩ := hy2.cells; obtain ⟨f0, f1, f2, f3, f4, f5, f6, f7⟩ := hy2.frees; obtain ⟨g0, g1, g2, g3, g4, g5, g6, g7⟩ := hx2.frees; have hw2 : Below w0.heap.size w0 w2 := hb0.trans (hb2.mono hb0.size); have hbw2 : Below n w w2 := hbw.trans (hb2.mono (by rw [← hn]; exact hbw.size)) )
        have hy3 := hy2.store (.int .i64 q.op) (.int .u64 (wd q.set 0)) (.int .u64 (wd q.set 1)) (.int .u64 (wd q.set 2)) (.int .u64 (wd q.set 3)) (.int .i64 q.lo) (.int .i64 q.hi) (.slice a q.kids.length c)
        obtain ⟨i0, i1, i2, i3, i4, i5, i6, i7⟩ := hy3.cells
        have he : p.inn = q := HI.out.symm.trans (inn_self hnot)
        refine bodyPost_ret (v := (.agg #[.int .i64 q.op, .int .u64 (wd q.set 0), .int .u64 (wd q.set 1), .int .u64 (wd q.set 2), .int .u64 (wd q.set 3), .int .i64 q.lo, .int .i64 q.hi, .slice a q.kids.length c])) (by simp [results, Tryz.results42, go_sem, *]) rfl ?_
        rw [he, hn]
        exact ⟨a, c, rfl, hkq, below_set8 hbw2 (by omega) _ _ _ _ _ _ _ _⟩
/-- The level of a kind with n kids. -/
def levOf (op : Int) (n : Nat) : Int := if op = 2 then (if n = 0 then 4 else 0) else if op = 4 then (if n = 0 then 4 else 1) else if op = 1 then 2 else if op = 5 then 3 else 4
theorem levelOfList_any (p : Pat) (a : Option Addr) (c : Nat) (x : Int) (w : World) :
    Calls Tryz.prog 82 #[(.agg #[.int .i64 p.op, .int .u64 (wd p.set 0), .int .u64 (wd p.set 1), .int .u64 (wd p.set 2), .int .u64 (wd p.set 3), .int .i64 p.lo, .int .i64 p.hi, .slice a p.kids.length c]), .int .i64 x] w fun e w' => e = .returned (.int .i64 (if p.kids.length = 0 then 4 else x)) ∧ Below w.heap.size w w' := by
  have hal : Below w.heap.size w (w.alloc (.cells #[.int .i64 p.op, .int .u64 (wd p.set 0), .int .u64 (wd p.set 1), .int .u64 (wd p.set 2), .int .u64 (wd p.set 3), .int .i64 p.lo, .int .i64 p.hi, .slice a p.kids.length c] 28)) := (Below.refl _ _).alloc (Nat.le_refl _) _
  by_cases h : p.kids.length = 0
  · have hb : ((p.kids.length : Int) == 0) = true := by rw [h]; rfl
    rw [if_pos h]
    clear h
    go_enter Tryz.func82, Tryz.ntmps82
    go_wp2
    go_ret
    exact ⟨rfl, hal⟩
  · have hb : ((p.kids.length : Int) == 0) = false := by rw [beq_eq_false_iff_ne]; omega
    rw [if_neg h]
    clear h
    go_enter Tryz.func82, Tryz.ntmps82
    go_wp2
    go_ret
    exact ⟨rfl, hal⟩
theorem levelOfList_lit (p : Pat) (a : Option Addr) (c : Nat) (x : Int) (v : Int) (hv : (if p.kids.length = 0 then 4 else x) = v) (w : World) :
    Calls Tryz.prog 82 #[(.agg #[.int .i64 p.op, .int .u64 (wd p.set 0), .int .u64 (wd p.set 1), .int .u64 (wd p.set 2), .int .u64 (wd p.set 3), .int .i64 p.lo, .int .i64 p.hi, .slice a p.kids.length c]), .int .i64 x] w fun e w' => e = .returned (.int .i64 v) ∧ Below w.heap.size w w' := by
  subst hv
  exact levelOfList_any p a c x w
set_option maxHeartbeats 1000000 in
theorem level_any (p : Pat) (a : Option Addr) (c : Nat) (w : World) :
    Calls Tryz.prog 69 #[(.agg #[.int .i64 p.op, .int .u64 (wd p.set 0), .int .u64 (wd p.set 1), .int .u64 (wd p.set 2), .int .u64 (wd p.set 3), .int .i64 p.lo, .int .i64 p.hi, .slice a p.kids.length c])] w fun e w' => e = .returned (.int .i64 (levOf p.op p.kids.length)) ∧ Below w.heap.size w w' := by
  have hal : Below w.heap.size w (w.alloc (.cells #[.int .i64 p.op, .int .u64 (wd p.set 0), .int .u64 (wd p.set 1), .int .u64 (wd p.set 2), .int .u64 (wd p.set 3), .int .i64 p.lo, .int .i64 p.hi, .slice a p.kids.length c] 28)) := (Below.refl _ _).alloc (Nat.le_refl _) _
  obtain ⟨v, hv⟩ : ∃ z, levOf p.op p.kids.length = z := ⟨_, rfl⟩
  rw [hv]
  unfold levOf at hv
  by_cases h2 : p.op = 2
  · have q2 : (p.op == 2) = true := by rw [h2]; rfl
    rw [if_pos h2] at hv
    clear h2
    go_enter Tryz.func69, Tryz.ntmps69
    go_wp2_with (go_at_call 82; (with_reducible refine (levelOfList_lit p a c 0 v hv _).mono ?_); rintro e w2 ⟨rfl, hb2⟩)
    go_ret
    exact ⟨rfl, below_step hal hb2⟩
  have q2 : (p.op == 2) = false := by rw [beq_eq_false_iff_ne]; exact h2
  rw [if_neg h2] at hv
  clear h2
  by_cases h4 : p.op = 4
  · have q4 : (p.op == 4) = true := by rw [h4]; rfl
    rw [if_pos h4] at hv
    clear h4
    go_enter Tryz.func69, Tryz.ntmps69
    go_wp2_with (go_at_call 82; (with_reducible refine (levelOfList_lit p a c 1 v hv _).mono ?_); rintro e w2 ⟨rfl, hb2⟩)
    go_ret
    exact ⟨rfl, below_step hal hb2⟩
  have q4 : (p.op == 4) = false := by rw [beq_eq_false_iff_ne]; exact h4
  rw [if_neg h4] at hv
  clear h4
  by_cases h1 : p.op = 1
  · have q1 : (p.op == 1) = true := by rw [h1]; rfl
    rw [if_pos h1] at hv
    subst hv
    clear h1
    go_enter Tryz.func69, Tryz.ntmps69
    go_wp2
    go_ret
    exact ⟨rfl, hal⟩
  have q1 : (p.op == 1) = false := by rw [beq_eq_false_iff_ne]; exact h1
  rw [if_neg h1] at hv
  clear h1
  by_cases h5 : p.op = 5
  · have q5 : (p.op == 5) = true := by rw [h5]; rfl
    rw [if_pos h5] at hv
    subst hv
    clear h5
    go_enter Tryz.func69, Tryz.ntmps69
    go_wp2
    go_ret
    exact ⟨rfl, hal⟩
  have q5 : (p.op == 5) = false := by rw [beq_eq_false_iff_ne]; exact h5
  rw [if_neg h5] at hv
  subst hv
  clear h5
  go_enter Tryz.func69, Tryz.ntmps69
  go_wp2
  go_ret
  exact ⟨rfl, hal⟩
end Go.Proofs.YtkpfpegjapddfaaGreatDoor
