/- Contract: Get. -/
import Derived.Test.YtmhjabodhgacnaaPK
import Derived.Test.YtmhjabodhgacnaaPI
import Derived.Test.YtmhjabodhgacnaaXD
import Derived.Lib.SlBytesConst
set_option maxRecDepth 100000
namespace Go.Proofs.Ytmhjabodhgacnaa
open Go.RowKit

theorem low_mono {R S : Nat} {v : Value} (h : LowB R v) (hr : R ≤ S) : LowB S v := fun k hk => Nat.lt_of_lt_of_le (h k hk) hr
theorem getB_far {l : List Nat} (h : (sealedB l && preB headB (l.take (l.length - 4))) = false) : getB l = none := by
  unfold getB
  rw [if_neg]
  rintro ⟨h1, h2⟩
  rw [h1, preB_iff.2 h2] at h
  cases h
/-- What is read of bytes that begin rightly. -/
def readM (l : List Nat) : List Sta × RS := rdMach ((l.take (l.length - 4)).drop 4, false)
theorem getB_near {l : List Nat} (h : (sealedB l && preB headB (l.take (l.length - 4))) = true) : getB l = if (readM l).2.2 = false ∧ (readM l).2.1 = [] ∧ checkB (readM l).1 = true then some (readM l).1 else none := by
  rw [Bool.and_eq_true] at h
  unfold getB
  rw [if_pos ⟨h.1, preB_iff.1 h.2⟩]
  rfl
theorem rdMach_ok : KeepR rdMach := rdList_ok rdSt_ok 4096
/-- The head's cells. -/
def headO : Obj := .cells #[.int .u8 68, .int .u8 70, .int .u8 65, .int .u8 49] 5 (4, 5)
theorem conv_head (w : World) : (convert 25 25 (.slice (some ⟨w.heap.size, 0, none⟩) 4 4)).run Try.prog (w.alloc (.cells #[.int .u8 68, .int .u8 70, .int .u8 65, .int .u8 49] 5)) = .ok (.slice (some ⟨w.heap.size, 0, none⟩) 4 4) (w.alloc headO) :=
  Lib.run_convert_bytes_const (P := Try.prog) w 25 5 #[.int .u8 68, .int .u8 70, .int .u8 65, .int .u8 49] 4 4 Try.underlying25 Try.underlying5
theorem head_at (w : World) : BytesAt (w.alloc headO) (.slice (some ⟨w.heap.size, 0, none⟩) 4 4) headB := by
  have h : (w.alloc headO).heap[w.heap.size]? = some (.cells #[.int .u8 68, .int .u8 70, .int .u8 65, .int .u8 49] 5 (4, 5)) := heap_alloc_new w headO
  refine ⟨_, 4, rfl, Nat.le_refl _, fun i hi => ⟨w.heap.size, 0, rfl, ?_⟩⟩
  have hi4 : i < 4 := hi
  match i, hi4 with
  | 0, _ => exact (cell_of_row _ _ 0 _ _ _ h).trans rfl
  | 1, _ => exact (cell_of_row _ _ 1 _ _ _ h).trans rfl
  | 2, _ => exact (cell_of_row _ _ 2 _ _ _ h).trans rfl
  | 3, _ => exact (cell_of_row _ _ 3 _ _ _ h).trans rfl
theorem head_bytes : ∀ x ∈ headB, x < 256 := by
  intro x hx
  simp only [headB, List.mem_cons, List.not_mem_nil, or_false] at hx
  omega
theorem rb_made {w2 : World} {a3 : Option Addr} {n3 c3 : Nat} {l : List Nat} (hz : BytesAt (w2.alloc headO) (.slice a3 n3 c3) l) (hl : LowB (w2.heap.size + 1) (.slice a3 n3 c3)) : RB ((w2.alloc headO).alloc (.cells #[.slice a3 n3 c3, .int .i64 0] 65)) (w2.heap.size + 1) (l, false) := by
  have h := heap_alloc_new (w2.alloc headO) (.cells #[.slice a3 n3 c3, .int .i64 0] 65)
  rw [World.size_alloc] at h
  exact ⟨_, h, hz.below (new_one _ _), hl⟩
/-- What Get tells. -/
def GetP (l : List Nat) (w : World) (e : Ending) (w' : World) : Prop := ∃ u, e = .returned (.tuple #[u, .int .i64 (errV (getB l).isSome)]) ∧ Hid (MachAt w' u ((getB l).getD [])) ∧ Hid (Below w.heap.size w w')
set_option maxHeartbeats 8000000 in
theorem get_any (v : Value) (l : List Nat) (w : World) (h : BytesAt w v l) (hl : l.length < 9223372036854775808) (hb : ∀ x ∈ l, x < 256) (hv : LowB w.heap.size v) :
    Calls Try.prog 18 #[v] w (GetP l w) := by
  obtain ⟨N, hN⟩ : ∃ N, w.heap.size = N := ⟨_, rfl⟩
  have HN := Lib.hid hN
  rw [hN] at hv
  have HUN := Lib.hid (unseal_any v l w N h hl hb hv)
  obtain ⟨T, hT⟩ : ∃ T, l.take (l.length - 4) = T := ⟨_, rfl⟩
  have HTB : Hid (∀ x ∈ T, x < 256) := Lib.hid (by rw [← hT]; exact fun x hx => hb x (List.mem_of_mem_take hx))
  have HTL : Hid (T.length < 9223372036854775808) := Lib.hid (by rw [← hT, List.length_take]; omega)
  have HFAR := Lib.hid (getB_far (l := l))
  have HNEAR := Lib.hid (getB_near (l := l))
  have HRM := Lib.hid (show readM l = rdMach (T.drop 4, false) from by rw [← hT]; rfl)
  rw [hT] at HUN HFAR HNEAR
  rw [hN] at HUN
  have HC := Lib.hid (fun (z : Value) (W : World) (hz : BytesAt W z T) (hlz : LowB N z) => cutprefix_any z (.slice (some ⟨W.heap.size, 0, none⟩) 4 4) T headB (W.alloc headO) N (hz.below (new_one W _)) (head_at W) HTB.out head_bytes hlz)
  clear h hl hb hv hT
  cases hs : sealedB l
  · have HG := Lib.hid (HFAR.out (by rw [hs, Bool.false_and]))
    rw [hs] at HUN
    generalize preB headB T = hp at *
    clear HFAR HNEAR hs HRM
    have kc := conv_head
    go_enter Try.func18, Try.ntmps18
    go_wp2_with (first
      | (go_at_call 27; (with_reducible refine HUN.out.mono ?_); rintro e w2 ⟨z2, rfl, hz2, hlz2, hb2⟩; have HB2 := hb2; have HC2 := Lib.hid (HC.out z2 w2 hz2.out hlz2.out); clear hz2 hlz2 hb2)
      | (go_at_call 28; (with_reducible refine HC2.out.mono ?_); rintro e w3 ⟨z3, rfl, hz3, hlz3, e3⟩; subst w3))
    go_ret2
    exact ⟨_, by rw [HG.out]; rfl, by rw [HG.out]; exact Lib.hid (MachAt.nil _), Lib.hid (by rw [HN.out]; exact HB2.out.trans ((new_one w2 _).mono (by rw [← HN.out]; exact HB2.out.size)))⟩
  · rw [hs] at HUN
    cases hp : preB headB T
    · have HG := Lib.hid (HFAR.out (by rw [hs, hp, Bool.true_and]))
      rw [hp] at HC
      clear HFAR HNEAR hs hp HRM
      have kc := conv_head
      go_enter Try.func18, Try.ntmps18
      go_wp2_with (first
        | (go_at_call 27; (with_reducible refine HUN.out.mono ?_); rintro e w2 ⟨z2, rfl, hz2, hlz2, hb2⟩; have HB2 := hb2; have HC2 := Lib.hid (HC.out z2 w2 hz2.out hlz2.out); clear hz2 hlz2 hb2)
        | (go_at_call 28; (with_reducible refine HC2.out.mono ?_); rintro e w3 ⟨z3, rfl, hz3, hlz3, e3⟩; subst w3))
      go_ret2
      exact ⟨_, by rw [HG.out]; rfl, by rw [HG.out]; exact Lib.hid (MachAt.nil _), Lib.hid (by rw [HN.out]; exact HB2.out.trans ((new_one w2 _).mono (by rw [← HN.out]; exact HB2.out.size)))⟩
    · have HG := Lib.hid (HNEAR.out (by rw [hs, hp]; rfl))
      rw [hp] at HC
      clear HFAR HNEAR hs hp
      have HTD : Hid (ROk (T.drop 4, false)) := Lib.hid ⟨fun x hx => HTB.out x (List.mem_of_mem_drop hx), by have := HTL.out; show (T.drop 4).length < _; rw [List.length_drop]; omega⟩
      have HLS := Lib.hid (fun R W hW => list_state R (T.drop 4, false) W hW HTD.out)
      have HSO := Lib.hid (rdMach_sound (T.drop 4, false) HTD.out.1)
      rw [HRM.out] at HG
      clear HRM HTD HTL HTB
      generalize rdMach (T.drop 4, false) = q at *
      cases hqe : q.2.2
      · have HQE := Lib.hid hqe
        have HMY := Lib.hid (okS_mays (HSO.out hqe).2.2.2)
        have HAL : Hid (∀ s ∈ q.1, s.arcs.length < 9223372036854775808) := Lib.hid fun s hs => by
          have := ((HSO.out hqe).2.2.2 s hs).2.1
          omega
        by_cases hql : q.2.1 = []
        · have HQL : Hid (q.2.1.length = 0) := Lib.hid (by rw [hql]; rfl)
          cases hcb : checkB q.1
          · have HCB := Lib.hid hcb
            have HGN : Hid (getB l = none) := Lib.hid (by rw [HG.out, if_neg]; rintro ⟨_, _, h⟩; rw [hcb] at h; cases h)
            clear hqe hql hcb HG HSO
            have kc := conv_head
            go_enter Try.func18, Try.ntmps18
            go_wp2_with (first
              | (go_at_call 27; (with_reducible refine HUN.out.mono ?_); rintro e w2 ⟨z2, rfl, hz2, hlz2, hb2⟩; have HB2 := hb2; have HC2 := Lib.hid (HC.out z2 w2 hz2.out hlz2.out); clear hz2 hlz2 hb2)
              | (go_at_call 28; (with_reducible refine HC2.out.mono ?_); rintro e w3 ⟨z3, rfl, hz3, hlz3, e3⟩; subst w3; have HZ3 : Hid (BytesAt (w2.alloc headO) z3 (T.drop 4)) := hz3; obtain ⟨a3, c3, rfl, _⟩ := HZ3.out.len; have HNW : Hid (N ≤ w2.heap.size) := Lib.hid (by rw [← HN.out]; exact HB2.out.size); have HL3 := Lib.hid (HLS.out (w2.heap.size + 1) ((w2.alloc headO).alloc (.cells #[.slice a3 (T.drop 4).length c3, .int .i64 0] 65)) (rb_made HZ3.out (low_mono hlz3.out (show N ≤ w2.heap.size + 1 by have := HNW.out; omega)))); obtain ⟨n3, hn3⟩ : ∃ n3, (T.drop 4).length = n3 := ⟨_, rfl⟩; rw [hn3] at HL3 ⊢; clear hz3 hlz3 hn3)
              | (go_at_call 29; (with_reducible refine HL3.out.mono ?_); rintro e w6 ⟨v6, vs6, rfl, hm6, hr6, hg6⟩; have HM6 := Lib.hid hm6.out.mach; obtain ⟨a6, c6, rfl⟩ := row_form hm6.out.own; have hb6 : Below N w w6 := (HB2.out.trans (((new_one w2 headO).mono HNW.out).trans ((new_one (w2.alloc headO) _).mono (by simp; have := HNW.out; omega)))).grown hg6.out (by simp; have := HNW.out; omega) (fun k hk => by have := Option.some.inj hk; have := HNW.out; omega); have HB6 := Lib.hid hb6; obtain ⟨lv, hrb, hby, _⟩ := hr6.out; obtain ⟨al, cl, rfl, _⟩ := hby.len; have c0 := (cell_of_row w6 (w2.heap.size + 1) 0 _ _ _ hrb).trans rfl; have c1 := (cell_of_row w6 (w2.heap.size + 1) 1 _ _ _ hrb).trans rfl; rw [HQE.out, errN_no] at c1; rw [HQL.out] at c0; have HK6 : Hid (Calls Try.prog 22 #[.slice a6 q.1.length c6] w6 fun e w' => e = .returned (.int .i64 110) ∧ Below w6.heap.size w6 w') := Lib.hid (by have := check_any _ q.1 w6 HM6.out HAL.out HMY.out; rw [HCB.out] at this; exact this); clear hm6 hr6 hg6 hb6 hrb hby)
              | (go_at_call 22; (with_reducible refine HK6.out.mono ?_); rintro e w7 ⟨rfl, hb7⟩; have HB7 : Hid (Below N w w7) := Lib.hid (HB6.out.trans (hb7.mono (by rw [← HN.out]; exact HB6.out.size))); have HM7 := Lib.hid (HM6.out.below hb7); clear hb7))
            go_ret2
            exact ⟨_, by rw [HGN.out]; rfl, by rw [HGN.out]; exact Lib.hid (MachAt.nil _), by rw [HN.out]; exact HB7⟩
          · have HCB := Lib.hid hcb
            have HGN : Hid (getB l = some q.1) := Lib.hid (by rw [HG.out, if_pos ⟨hqe, hql, hcb⟩])
            clear hqe hql hcb HG HSO
            have kc := conv_head
            go_enter Try.func18, Try.ntmps18
            go_wp2_with (first
              | (go_at_call 27; (with_reducible refine HUN.out.mono ?_); rintro e w2 ⟨z2, rfl, hz2, hlz2, hb2⟩; have HB2 := hb2; have HC2 := Lib.hid (HC.out z2 w2 hz2.out hlz2.out); clear hz2 hlz2 hb2)
              | (go_at_call 28; (with_reducible refine HC2.out.mono ?_); rintro e w3 ⟨z3, rfl, hz3, hlz3, e3⟩; subst w3; have HZ3 : Hid (BytesAt (w2.alloc headO) z3 (T.drop 4)) := hz3; obtain ⟨a3, c3, rfl, _⟩ := HZ3.out.len; have HNW : Hid (N ≤ w2.heap.size) := Lib.hid (by rw [← HN.out]; exact HB2.out.size); have HL3 := Lib.hid (HLS.out (w2.heap.size + 1) ((w2.alloc headO).alloc (.cells #[.slice a3 (T.drop 4).length c3, .int .i64 0] 65)) (rb_made HZ3.out (low_mono hlz3.out (show N ≤ w2.heap.size + 1 by have := HNW.out; omega)))); obtain ⟨n3, hn3⟩ : ∃ n3, (T.drop 4).length = n3 := ⟨_, rfl⟩; rw [hn3] at HL3 ⊢; clear hz3 hlz3 hn3)
              | (go_at_call 29; (with_reducible refine HL3.out.mono ?_); rintro e w6 ⟨v6, vs6, rfl, hm6, hr6, hg6⟩; have HM6 := Lib.hid hm6.out.mach; obtain ⟨a6, c6, rfl⟩ := row_form hm6.out.own; have hb6 : Below N w w6 := (HB2.out.trans (((new_one w2 headO).mono HNW.out).trans ((new_one (w2.alloc headO) _).mono (by simp; have := HNW.out; omega)))).grown hg6.out (by simp; have := HNW.out; omega) (fun k hk => by have := Option.some.inj hk; have := HNW.out; omega); have HB6 := Lib.hid hb6; obtain ⟨lv, hrb, hby, _⟩ := hr6.out; obtain ⟨al, cl, rfl, _⟩ := hby.len; have c0 := (cell_of_row w6 (w2.heap.size + 1) 0 _ _ _ hrb).trans rfl; have c1 := (cell_of_row w6 (w2.heap.size + 1) 1 _ _ _ hrb).trans rfl; rw [HQE.out, errN_no] at c1; rw [HQL.out] at c0; have HK6 : Hid (Calls Try.prog 22 #[.slice a6 q.1.length c6] w6 fun e w' => e = .returned (.int .i64 0) ∧ Below w6.heap.size w6 w') := Lib.hid (by have := check_any _ q.1 w6 HM6.out HAL.out HMY.out; rw [HCB.out] at this; exact this); clear hm6 hr6 hg6 hb6 hrb hby)
              | (go_at_call 22; (with_reducible refine HK6.out.mono ?_); rintro e w7 ⟨rfl, hb7⟩; have HB7 : Hid (Below N w w7) := Lib.hid (HB6.out.trans (hb7.mono (by rw [← HN.out]; exact HB6.out.size))); have HM7 := Lib.hid (HM6.out.below hb7); clear hb7))
            go_ret2
            exact ⟨_, by rw [HGN.out]; rfl, by rw [HGN.out]; exact HM7, by rw [HN.out]; exact HB7⟩
        · obtain ⟨n, hn⟩ : ∃ n, q.2.1.length = n + 1 := by
            cases h : q.2.1 with
            | nil => exact absurd h hql
            | cons x xs => exact ⟨xs.length, rfl⟩
          have HQL := Lib.hid hn
          have hn0 : decide (((n + 1 : Nat) : Int) > 0) = true := decide_eq_true (by omega)
          have hn1 : decide ((0 : Int) < ((n + 1 : Nat) : Int)) = true := decide_eq_true (by omega)
          have hn2 : (0 : Int) < ((n + 1 : Nat) : Int) := by omega
          have HGN : Hid (getB l = none) := Lib.hid (by rw [HG.out, if_neg]; rintro ⟨_, h, _⟩; exact hql h)
          clear hqe hql hn HG HSO HMY HAL
          have kc := conv_head
          go_enter Try.func18, Try.ntmps18
          go_wp2_with (first
            | (go_at_call 27; (with_reducible refine HUN.out.mono ?_); rintro e w2 ⟨z2, rfl, hz2, hlz2, hb2⟩; have HB2 := hb2; have HC2 := Lib.hid (HC.out z2 w2 hz2.out hlz2.out); clear hz2 hlz2 hb2)
            | (go_at_call 28; (with_reducible refine HC2.out.mono ?_); rintro e w3 ⟨z3, rfl, hz3, hlz3, e3⟩; subst w3; have HZ3 : Hid (BytesAt (w2.alloc headO) z3 (T.drop 4)) := hz3; obtain ⟨a3, c3, rfl, _⟩ := HZ3.out.len; have HNW : Hid (N ≤ w2.heap.size) := Lib.hid (by rw [← HN.out]; exact HB2.out.size); have HL3 := Lib.hid (HLS.out (w2.heap.size + 1) ((w2.alloc headO).alloc (.cells #[.slice a3 (T.drop 4).length c3, .int .i64 0] 65)) (rb_made HZ3.out (low_mono hlz3.out (show N ≤ w2.heap.size + 1 by have := HNW.out; omega)))); obtain ⟨n3, hn3⟩ : ∃ n3, (T.drop 4).length = n3 := ⟨_, rfl⟩; rw [hn3] at HL3 ⊢; clear hz3 hlz3 hn3)
            | (go_at_call 29; (with_reducible refine HL3.out.mono ?_); rintro e w6 ⟨v6, vs6, rfl, hm6, hr6, hg6⟩; have HM6 := Lib.hid hm6.out.mach; obtain ⟨a6, c6, rfl⟩ := row_form hm6.out.own; have hb6 : Below N w w6 := (HB2.out.trans (((new_one w2 headO).mono HNW.out).trans ((new_one (w2.alloc headO) _).mono (by simp; have := HNW.out; omega)))).grown hg6.out (by simp; have := HNW.out; omega) (fun k hk => by have := Option.some.inj hk; have := HNW.out; omega); have HB6 := Lib.hid hb6; obtain ⟨lv, hrb, hby, _⟩ := hr6.out; obtain ⟨al, cl, rfl, _⟩ := hby.len; have c0 := (cell_of_row w6 (w2.heap.size + 1) 0 _ _ _ hrb).trans rfl; have c1 := (cell_of_row w6 (w2.heap.size + 1) 1 _ _ _ hrb).trans rfl; rw [HQE.out, errN_no] at c1; rw [HQL.out] at c0; clear hm6 hr6 hg6 hb6 hrb hby))
          go_ret2
          exact ⟨_, by rw [HGN.out]; rfl, by rw [HGN.out]; exact Lib.hid (MachAt.nil _), by rw [HN.out]; exact HB6⟩
      · have HQE := Lib.hid hqe
        have HGN : Hid (getB l = none) := Lib.hid (by rw [HG.out, if_neg]; rintro ⟨h, _, _⟩; rw [hqe] at h; cases h)
        clear hqe HG HSO
        have kc := conv_head
        go_enter Try.func18, Try.ntmps18
        go_wp2_with (first
          | (go_at_call 27; (with_reducible refine HUN.out.mono ?_); rintro e w2 ⟨z2, rfl, hz2, hlz2, hb2⟩; have HB2 := hb2; have HC2 := Lib.hid (HC.out z2 w2 hz2.out hlz2.out); clear hz2 hlz2 hb2)
          | (go_at_call 28; (with_reducible refine HC2.out.mono ?_); rintro e w3 ⟨z3, rfl, hz3, hlz3, e3⟩; subst w3; have HZ3 : Hid (BytesAt (w2.alloc headO) z3 (T.drop 4)) := hz3; obtain ⟨a3, c3, rfl, _⟩ := HZ3.out.len; have HNW : Hid (N ≤ w2.heap.size) := Lib.hid (by rw [← HN.out]; exact HB2.out.size); have HL3 := Lib.hid (HLS.out (w2.heap.size + 1) ((w2.alloc headO).alloc (.cells #[.slice a3 (T.drop 4).length c3, .int .i64 0] 65)) (rb_made HZ3.out (low_mono hlz3.out (show N ≤ w2.heap.size + 1 by have := HNW.out; omega)))); obtain ⟨n3, hn3⟩ : ∃ n3, (T.drop 4).length = n3 := ⟨_, rfl⟩; rw [hn3] at HL3 ⊢; clear hz3 hlz3 hn3)
          | (go_at_call 29; (with_reducible refine HL3.out.mono ?_); rintro e w6 ⟨v6, vs6, rfl, hm6, hr6, hg6⟩; have HM6 := Lib.hid hm6.out.mach; obtain ⟨a6, c6, rfl⟩ := row_form hm6.out.own; have hb6 : Below N w w6 := (HB2.out.trans (((new_one w2 headO).mono HNW.out).trans ((new_one (w2.alloc headO) _).mono (by simp; have := HNW.out; omega)))).grown hg6.out (by simp; have := HNW.out; omega) (fun k hk => by have := Option.some.inj hk; have := HNW.out; omega); have HB6 := Lib.hid hb6; obtain ⟨lv, hrb, hby, _⟩ := hr6.out; obtain ⟨al, cl, rfl, _⟩ := hby.len; have c0 := (cell_of_row w6 (w2.heap.size + 1) 0 _ _ _ hrb).trans rfl; have c1 := (cell_of_row w6 (w2.heap.size + 1) 1 _ _ _ hrb).trans rfl; rw [HQE.out, errN_yes] at c1; clear hm6 hr6 hg6 hb6 hrb hby))
        go_ret2
        exact ⟨_, by rw [HGN.out]; rfl, by rw [HGN.out]; exact Lib.hid (MachAt.nil _), by rw [HN.out]; exact HB6⟩
end Go.Proofs.Ytmhjabodhgacnaa
