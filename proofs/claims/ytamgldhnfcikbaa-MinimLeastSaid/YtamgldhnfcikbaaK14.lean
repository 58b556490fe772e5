/- Texts that a proof rests on: Contracts: dfa.runs, and the iterator that it hands back. | The contract of dfa.Arcs. -/
import Derived.Test.YtamgldhnfcikbaaK13
import Derived.RangeFuncNested
import Derived.RangeFuncBound
import Derived.RangeFuncCalls
import Derived.RangeFuncLeaves
import Derived.RangeFuncBox
import Derived.Shelf.Abstract
import Derived.Shelf.RegionOpen
import Derived.OwnWalkIn
import Derived.TacticsInMore
import Derived.LoopNIn
import Derived.LoopIn
import Derived.Maps.AppendAt
import Derived.RegionIn
import Derived.Sort.QuietIn
import Derived.WalkSmall
set_option maxRecDepth 100000
namespace Go.Proofs.Ytamgldhnfcikbaa
open Go.RowKit Go.Shelf
attribute [local go_sem] Oper.semAt_some

set_option maxHeartbeats 1000000 in
theorem aruns_any (f : Nat → Int) (w : World) :
    Calls Try.prog 60 #[.agg (Ints f)] w fun e w' => e = .returned (.func (.func 70) #[] #[.pointer (some ⟨w.heap.size, 0, none⟩)]) ∧ w' = w.alloc (.cells (Ints f) 49) := by
  obtain ⟨I9, hI9⟩ : ∃ I9, Ints f = I9 := ⟨_, rfl⟩
  rw [hI9]
  go_enter Try.func60, Try.ntmps60
  go_wp2
  go_ret
  exact ⟨rfl, rfl⟩
theorem below_drewN (w : World) : ∀ n, Below w.heap.size w (w.drewN n)
  | 0 => Below.refl _ _
  | n + 1 => (below_drewN w n).drew
def KeepInts (n₀ : Nat) (W W' : World) : Prop := Below n₀ W W' ∧ ∀ (k : Nat) (c : Array Value) (fz : Nat × Nat), W.heap[k]? = some (Obj.cells c 49 fz) → W'.heap[k]? = some (Obj.cells c 49 fz)
theorem KeepInts.ints {n₀ : Nat} {W W' : World} (h : KeepInts n₀ W W') {b : Nat} {f : Nat → Int} (hs : IBlk W b f) : IBlk W' b f := h.2 b _ _ hs
theorem KeepInts.trans {n₀ : Nat} {A B C : World} (h : KeepInts n₀ A B) (k : KeepInts n₀ B C) : KeepInts n₀ A C := ⟨h.1.trans k.1, fun i c fz hi => k.2 i c fz (h.2 i c fz hi)⟩
theorem keepInts_b {n₀ : Nat} {w : World} (hn : n₀ ≤ w.heap.size) (W : World) (l : Nat) (o o' : Obj) (hl : w.heap.size ≤ l) (h : W.heap[l]? = some o) (h1 : o.isCells = false) (h2 : o.isWalk = false) : KeepInts n₀ W (W.putObj l o') :=
  ⟨belowK_b hn W l o o' hl h h1 h2, fun k c fz hk => by
    by_cases e : k = l
    · subst e; rw [hk] at h; cases h; cases h1
    · rw [World.putObj_heap_other e]; exact hk⟩
theorem grown_of_below {W W' : World} (h : Below W.heap.size W W') : W.grownBy W' none := ⟨h.os, h.tape, h.output, h.size, fun k hk _ => h.block k hk⟩
set_option linter.unusedSimpArgs false in
set_option maxHeartbeats 4000000 in
theorem aruns1_in (n : Nat) (hn : 1 ≤ n) (l Bs n₀ : Nat) (f : Nat → Int) (J Jx : List Arc3 → World → Prop)
    (hY : ∀ pre x W, J pre W → pre.length < 256 → YieldAt Fence.wide (n - 1) Try.prog l #[arcV x] W fun e W' =>
      (e = .returned (.bool true) ∧ J (pre ++ [x]) W' ∧ KeepInts n₀ W W') ∨ (e = .returned (.bool false) ∧ Jx (pre ++ [x]) W'))
    (W : World) (hA : AbidesFrom W.heap.size J) (hs : IBlk W Bs f) (h0 : J [] W) :
    CallsIn Fence.wide n Try.prog 70 #[.func (.yield l) #[] #[], .pointer (some ⟨Bs, 0, none⟩)] W fun e W' => (∃ v, e = .returned v) ∧
      ((∃ ys, upA ys = arcsS f ∧ J ys W') ∨ (∃ pre, Jx pre W')) := by
  have HY := Lib.hid hY
  have HA := Lib.hid hA
  have HR0 := Lib.hid (Runs.start f)
  have HS0 := Lib.hid hs
  have HJ0 := Lib.hid h0
  clear hY hA hs h0
  refine callsIn_of_wp Try.func70 rfl trivial ?_ rfl
  simp only [Try.ntmps70, List.size_toArray, List.length_cons, List.length_nil, Nat.reduceAdd, Nat.reduceSub, Array.replicate_succ, Array.replicate_zero, List.push_toArray, List.append_toArray, List.nil_append, List.cons_append]
  gi_wp2
  gi_loopw [3, 5] (fun a z wr => ∃ (lo b : Nat) (pre : List Arc3), a = .int .i64 lo ∧ z = .int .i64 b ∧ b ≤ 256 ∧ Hid (Runs f pre lo b) ∧ Hid (IBlk wr Bs f) ∧ W.heap.size ≤ wr.heap.size ∧ Hid (J pre wr)) (fun _ z _ => 256 - (intOf z).toNat)
  case atStart => exact ⟨0, 0, [], rfl, rfl, Nat.zero_le _, HR0, HS0, Nat.le_refl _, HJ0⟩
  case round =>
    clear HR0 HS0 HJ0
    obtain ⟨lo, b, pre, rfl, rfl, hb, HR, HS, hsz, HJ⟩ := hrel
    by_cases hlt : b < 256
    · have hd : decide ((b : Int) < 256) = true := decide_eq_true (by omega)
      have hle := HR.out.le
      have hlo : lo < 256 := by omega
      have hlol : (lo : Int) < 256 := by omega
      have hbl : (b : Int) < 256 := by omega
      have e0 := HS.out.cell hlo
      by_cases h255 : b < 255
      · have hd2 : decide ((b : Int) < 255) = true := decide_eq_true (by omega)
        have e1 := HS.out.cell (show b + 1 < 256 by omega)
        have hb1 : ((b : Int) + 1) < 256 := by omega
        by_cases heq : f (b + 1) = f lo
        · have HC := Lib.hid (HR.out.cont h255 heq)
          gi_wp2_with fail
          gi_quiet (fail)
          have hb1 : Below wr.heap.size wr (wr.drewN nq) := below_drewN wr nq
          have HS1 := Lib.hid (HS.out.below hb1)
          have HJ1 := Lib.hid (HA.out pre wr (wr.drewN nq) none HJ.out (grown_of_below hb1) (fun r e => by cases e))
          have hsz1 : W.heap.size ≤ (wr.drewN nq).heap.size := Nat.le_trans hsz hb1.size
          clear HS HJ hb1
          gi_wp2
          go_roundw
          case rel => exact ⟨lo, b + 1, pre, rfl, num_succ b, by omega, HC, HS1, hsz1, HJ1⟩
          case measure => simp [intOf]; omega
        · have hbq : (f (b + 1) == f lo) = false := by rw [beq_eq_false_iff_ne]; exact heq
          have HNE : b = 255 ∨ f (b + 1) ≠ f lo := .inr heq
          have hwl : IntKind.u8.wrap (lo : Int) = lo := by rw [IntKind.wrap_u8]; omega
          have hwb : IntKind.u8.wrap (b : Int) = b := by rw [IntKind.wrap_u8]; omega
          gi_wp2_with fail
          gi_quiet (fail)
          obtain ⟨w1, hw1⟩ : ∃ w1, wr.drewN nq = w1 := ⟨_, rfl⟩
          rw [hw1]
          have hb1 : Below wr.heap.size wr w1 := by rw [← hw1]; exact below_drewN wr nq
          have HS1 := Lib.hid (HS.out.below hb1)
          have HJ1 := Lib.hid (HA.out pre wr w1 none HJ.out (grown_of_below hb1) (fun r e => by cases e))
          have hsz1 := Nat.le_trans hsz hb1.size
          have HE := Lib.hid (HR.out.emit hlt HNE)
          have hln := HR.out.len
          have d0 := HS1.out.cell hlo
          clear hw1 hb1 HS HJ e0
          obtain ⟨fn, tmps, assign, body, hy, hR⟩ := HY.out pre ⟨lo, b, f lo⟩ w1 HJ1.out (by omega)
          dsimp only [arcV] at hy
          have HRR := Lib.hid hR
          clear hR
          gi_wp2
          refine HRR.out.mono ?_
          clear HRR hy
          rintro er W3 (⟨rfl, hJ5, hk5⟩ | ⟨rfl, hJx5⟩)
          · have HS5 := Lib.hid (hk5.ints HS1.out)
            have HJ5 := Lib.hid hJ5
            have hsz5 := Nat.le_trans hsz1 hk5.1.size
            clear hk5 hJ5 HS1 HJ1 d0
            gi_wp2
            go_roundw
            case rel => exact ⟨b + 1, b + 1, pre ++ [⟨lo, b, f lo⟩], num_succ b, num_succ b, by omega, HE, HS5, hsz5, HJ5⟩
            case measure => simp [intOf]; omega
          · gi_wp2
            refine bodyPost_ret (results_none rfl _ _ _) rfl ?_
            exact ⟨⟨_, rfl⟩, .inr ⟨_, hJx5⟩⟩
      · have hd2 : decide ((b : Int) < 255) = false := decide_eq_false (by omega)
        have HNE : b = 255 ∨ f (b + 1) ≠ f lo := .inl (by omega)
        have hwl : IntKind.u8.wrap (lo : Int) = lo := by rw [IntKind.wrap_u8]; omega
        have hwb : IntKind.u8.wrap (b : Int) = b := by rw [IntKind.wrap_u8]; omega
        gi_wp2_with fail
        gi_quiet (fail)
        obtain ⟨w1, hw1⟩ : ∃ w1, wr.drewN nq = w1 := ⟨_, rfl⟩
        rw [hw1]
        have hb1 : Below wr.heap.size wr w1 := by rw [← hw1]; exact below_drewN wr nq
        have HS1 := Lib.hid (HS.out.below hb1)
        have HJ1 := Lib.hid (HA.out pre wr w1 none HJ.out (grown_of_below hb1) (fun r e => by cases e))
        have hsz1 := Nat.le_trans hsz hb1.size
        have HE := Lib.hid (HR.out.emit hlt HNE)
        have hln := HR.out.len
        have d0 := HS1.out.cell hlo
        clear hw1 hb1 HS HJ e0
        obtain ⟨fn, tmps, assign, body, hy, hR⟩ := HY.out pre ⟨lo, b, f lo⟩ w1 HJ1.out (by omega)
        dsimp only [arcV] at hy
        have HRR := Lib.hid hR
        clear hR
        gi_wp2
        refine HRR.out.mono ?_
        clear HRR hy
        rintro er W3 (⟨rfl, hJ5, hk5⟩ | ⟨rfl, hJx5⟩)
        · have HS5 := Lib.hid (hk5.ints HS1.out)
          have HJ5 := Lib.hid hJ5
          have hsz5 := Nat.le_trans hsz1 hk5.1.size
          clear hk5 hJ5 HS1 HJ1 d0
          gi_wp2
          go_roundw
          case rel => exact ⟨b + 1, b + 1, pre ++ [⟨lo, b, f lo⟩], num_succ b, num_succ b, by omega, HE, HS5, hsz5, HJ5⟩
          case measure => simp [intOf]; omega
        · gi_wp2
          refine bodyPost_ret (results_none rfl _ _ _) rfl ?_
          exact ⟨⟨_, rfl⟩, .inr ⟨_, hJx5⟩⟩
    · obtain rfl : b = 256 := by omega
      have hd : decide (((256 : Nat) : Int) < 256) = false := by decide
      gi_wp2
      go_end0
      exact ⟨⟨_, rfl⟩, .inl ⟨pre, HR.out.all, HJ.out⟩⟩
end Go.Proofs.Ytamgldhnfcikbaa
set_option maxRecDepth 100000
namespace Go.Proofs.Ytamgldhnfcikbaa
open Go.RowKit Go.Shelf
attribute [local go_sem] Oper.semAt_some

theorem aruns_stops (n : Nat) (hn : 1 ≤ n) (Bs n₀ : Nat) (f : Nat → Int) (w : World) (hs : IBlk w Bs f) :
    SeqStopsK Fence.wide n Try.prog 70 #[.pointer (some ⟨Bs, 0, none⟩)] (fun x : Arc3 => #[arcV x]) (KeepInts n₀) (fun ys => upA ys = arcsS f) (fun _ => True) 256 w := fun l J Jx W hW hA _ hY h0 => by
  refine (aruns1_in n hn l Bs n₀ f J Jx hY W hA (hs.below hW) h0).mono ?_
  rintro e W' ⟨h1, h2⟩
  exact ⟨h1, h2.imp_right fun ⟨pre, h⟩ => ⟨pre, trivial, h⟩⟩
theorem keepInts_alloc {n₀ : Nat} {W : World} (h : n₀ ≤ W.heap.size) (o : Obj) : KeepInts n₀ W (W.alloc o) :=
  ⟨(Below.refl _ _).alloc h _, fun k _ _ hk => (Below.heap_alloc _ _ k (Array.getElem?_eq_some_iff.1 hk).1).trans hk⟩
theorem keepInts_setCell {n₀ B : Nat} {t : TypeId} {W : World} {v : Value} (hb : Boxed W B t v) (ht : t ≠ 49) (h : n₀ ≤ B) (u : Value) : KeepInts n₀ W (W.setCell ⟨B, 0, none⟩ u) :=
  ⟨(Below.refl _ _).setCell (p := ⟨B, 0, none⟩) h _, fun k c fz hk => by
    by_cases e : k = B
    · subst e; unfold Boxed at hb; rw [hb] at hk; cases hk; exact absurd rfl ht
    · rw [Below.heap_setCell _ _ _ _ e]; exact hk⟩
theorem keepInts_grown {n₀ size : Nat} {e : TypeId} {W W' : World} {v : Value} {k : Nat} {xs : List Value} (hr : W.ownsRow n₀ e size v k xs) (he : e ≠ 49) (hg : W.grownBy W' v.ownBlock) (h : n₀ ≤ W.heap.size) : KeepInts n₀ W W' :=
  ⟨(Below.refl _ _).grown hg h (fun j ej => (hr.lt j ej).1), fun j c fz hj => by
    rw [hg.block j (Array.getElem?_eq_some_iff.1 hj).1 (fun ej => ?_)]
    · exact hj
    · rcases hr.2 with ⟨rfl, _⟩ | ⟨g, cap, cur, rfl, _, hgb, _⟩
      · simp [Value.ownBlock] at ej
      · obtain rfl : j = g := by simpa [Value.ownBlock] using ej
        rw [hgb] at hj; cases hj; exact he rfl⟩
theorem ablk_own (b : Nat) (x : Arc3) : Go.Own (fun (_ : Unit) W => ABlk W b x) := fun _ W W' row hs hg hr => by
  show W'.heap[b]? = _
  have hs : W.heap[b]? = some (.cells #[.int .u8 x.lo, .int .u8 x.hi, .int .i64 x.dest] 38 (0, 0)) := hs
  rw [hg.block b (Array.getElem?_eq_some_iff.1 hs).1 (fun e => ?_)]
  · exact hs
  · obtain ⟨o, ho, hc⟩ := hr b e.symm
    rw [hs] at ho; cases ho; cases hc
theorem upA_len (P : List Arc3) : (upA P).length ≤ P.length := List.length_filter_le _ _
theorem wpIn_load_row {n : Nat} {op : Oper} {a : Act} {W : World} {K : Act → World → Prop} {Q : Exit → Act → World → Prop} {b : Nat} {v : Value} (hld : (loadVar 49 ⟨b, 0, none⟩).run Try.prog W = .ok v W) (x : Operand) (ho : op.op = .load 49 x)
    (hx : a.eval x = .pointer (some ⟨b, 0, none⟩)) (h : K (a.put op.dst v) W) : Oper.wpIn Fence.wide n Try.prog op a W K Q := by
  refine ⟨fun _ _ => trivial, ?_⟩
  rw [Oper.semAt_plain Fence.wide _ _ (by rw [ho]; intro c hc; cases hc)]
  unfold execOp
  simp only [ho, hx, Instr.loadAt, Instr.sureAddr, Sem.run_bind, Sem.run_pure, Result.andThen_ok, hld]
  exact h
set_option linter.unusedSimpArgs false in
set_option maxHeartbeats 4000000 in
theorem darcs_any (f : Nat → Int) (w : World) :
    Calls Try.prog 45 #[.agg (Ints f)] w fun e w' => ∃ v, e = .returned v ∧ Hid (w'.ownsRow w.heap.size 38 3 v (arcsS f).length (flatA (arcsS f))) ∧ Hid (Below w.heap.size w w') := by
  refine (callsIn_wide (n := 3)).1 ?_
  obtain ⟨i0, hi, hz0, hz1, hz2⟩ := info_parts infoArc
  refine callsIn_of_wp_marks Try.func45 rfl trivial ?_ rfl
  simp only [Try.ntmps45, List.size_toArray, List.length_cons, List.length_nil, Nat.reduceAdd, Nat.reduceSub, Array.replicate_succ, Array.replicate_zero, List.push_toArray, List.append_toArray, List.nil_append, List.cons_append]
  have hld : ∀ W : World, IBlk W w.heap.size f → (loadVar 49 ⟨w.heap.size, 0, none⟩).run Try.prog W = .ok (.agg (Ints f)) W := fun W h => load_ints h
  have hl1 := hld ((w.alloc (.cells (Ints f) 49)).alloc (.cells #[.slice none 0 0] 39)) (by
    unfold IBlk
    rw [heap_alloc_old _ _ (by simp)]; exact heap_alloc_new w _)
  obtain ⟨I9, hI9⟩ : ∃ I9, Ints f = I9 := ⟨_, rfl⟩
  rw [hI9] at hl1 ⊢
  gi_wp2
  refine wpIn_load_row hl1 _ rfl rfl ?_
  have HAR : ∀ W, Calls Try.prog 60 #[.agg I9] W fun e w' => e = .returned (.func (.func 70) #[] #[.pointer (some ⟨W.heap.size, 0, none⟩)]) ∧ w' = W.alloc (.cells I9 49) := fun W => by rw [← hI9]; exact aruns_any f W
  have bL := (Boxed.new (w.alloc (.cells I9 49)) 39 (.slice none 0 0)).alloc (.cells I9 49)
  have bS : IBlk (((w.alloc (.cells I9 49)).alloc (.cells #[.slice none 0 0] 39)).alloc (.cells I9 49)) (w.heap.size + 1 + 1) f := by
    have h8 := heap_alloc_new ((w.alloc (.cells I9 49)).alloc (.cells #[.slice none 0 0] 39)) (.cells I9 49)
    have h9 : ((w.alloc (.cells I9 49)).alloc (.cells #[.slice none 0 0] 39)).heap.size = w.heap.size + 1 + 1 := by simp
    rw [h9] at h8
    unfold IBlk
    rw [hI9]; exact h8
  clear hI9 hld
  gi_wp2_with (refine ⟨trivial, ?_⟩; gi_at_call 60; refine (callsIn_wide.2 (HAR _)).mono ?_; rintro e w' ⟨rfl, rfl⟩)
  clear hl1 HAR
  simp only [World.size_alloc] at bL
  have hB0 : Below w.heap.size w (((w.alloc (.cells I9 49)).alloc (.cells #[.slice none 0 0] 39)).alloc (.cells I9 49)) := (((Below.refl _ w).alloc (Nat.le_refl _) _).alloc (by simp) _).alloc (by simp; omega) _
  have hsz : (((w.alloc (.cells I9 49)).alloc (.cells #[.slice none 0 0] 39)).alloc (.cells I9 49)).heap.size = w.heap.size + 3 := by simp
  obtain ⟨W0, hW0⟩ : ∃ W0, ((w.alloc (.cells I9 49)).alloc (.cells #[.slice none 0 0] 39)).alloc (.cells I9 49) = W0 := ⟨_, rfl⟩
  rw [hW0] at bL bS hB0 hsz ⊢
  clear hW0
  refine wpIn_rangeFunc_ownH rfl (by omega) (gf := 70) (lb := #[.pointer (some ⟨w.heap.size + 1 + 1, 0, none⟩)]) rfl trivial (enters_of Try.func70 (by kernel_rfl) rfl)
    (aruns_stops 2 (by omega) (w.heap.size + 1 + 1) w.heap.size f W0 bS) KeepInts.trans (keepInts_b (by omega)) (Below.refl _ _) (fun _ => rfl)
    (fun pre W => (∃ v, Boxed W (w.heap.size + 1) 39 v ∧ W.ownsRow w.heap.size 38 3 v (upA pre).length (flatA (upA pre)) ∧ True) ∧ Below w.heap.size w W)
    (fun _ _ _ => False)
    (OwnFrom.and (Go.Own.from (holdsRow_own w.heap.size (w.heap.size + 1) 39 38 3 (fun pre => (upA pre).length) (fun pre => flatA (upA pre)) (fun _ _ => True)) _) (ownFrom_below (Nat.le_refl _) (by omega)))
    (fun _ _ _ _ _ hs _ _ => hs)
    ⟨⟨_, bL, World.ownsRow_nil _ _ _ _, trivial⟩, hB0⟩
    (fun x a' W => ∃ Bx, ABlk W Bx x ∧ a' = { tmps := #[.agg I9, .pointer (some ⟨w.heap.size, 0, none⟩), .slice none 0 0, .pointer (some ⟨w.heap.size + 1, 0, none⟩), .pointer (some ⟨Bx, 0, none⟩), .agg I9, .func (.func 70) #[] #[.pointer (some ⟨w.heap.size + 1 + 1, 0, none⟩)], arcV x, undef, undef, undef, undef, undef, undef, undef, undef], defers := [] })
    (fun x a' _ X Y row hs hg hr => by obtain ⟨Bx, h2, h3⟩ := hs; exact ⟨Bx, ablk_own Bx x () X Y row h2 hg (fun r e => (hr r e).2), h3⟩)
    ?assign ?body ?done ?stop
  case assign =>
    rintro l pre x W K ⟨⟨v, bv, hr, _⟩, hB1⟩ hK
    dsimp only [arcV]
    gi_wp2
    refine hK _ _ ((KeepsOthers.alloc _ _).from _) (keepInts_alloc hB1.size _) ⟨⟨v, bv.alloc _, hr.alloc _, trivial⟩, hB1.alloc hB1.size _⟩ ⟨W.heap.size, ?_, rfl⟩
    exact heap_alloc_new W _
  case body =>
    rintro l pre x a' W hl ⟨r, hr⟩ ⟨⟨v, bv, hrow, _⟩, hB1⟩ ⟨Bx, hPx, rfl⟩ hlt
    obtain ⟨p0, p1, p2⟩ := hPx.cells
    have hc := bv.cell
    have hbs := hB1.size
    have hlu := upA_len pre
    have hsn := upA_snoc pre x
    dsimp only [arcV]
    by_cases hx : 0 ≤ x.dest
    · have hd : decide (x.dest ≥ 0) = true := decide_eq_true hx
      rw [if_pos hx] at hsn
      gi_wp2_with (gi_at_builtin; refine wpListIn_append_own _ rfl _ _ 39 rfl w.heap.size 38 i0 (.agg #[.int .u8 0, .int .u8 0, .int .i64 0]) 3 16 Try.underlying39 hi hz0 hz1 hz2 rfl (by decide) _ _ _ rfl (hrow.alloc _) ⟨W.heap.size, 0, none⟩ 1 1 [.int .u8 x.lo, .int .u8 x.hi, .int .i64 x.dest] rfl rfl (news_in (cs := #[.int .u8 x.lo, .int .u8 x.hi, .int .i64 x.dest]) (heap_alloc_new W _)) (by simp [Value.oneCell']) (by unfold maxLen; omega) (by omega) (by simp; omega) ?_; intro v' w1 hown' hgrow _; obtain ⟨g', cap', rfl⟩ := ownsRow_succ hown'; obtain ⟨hv1, hv2, hr2, hk2, hb2⟩ := bv.appended (by decide) hrow hbs (by omega) hown' hgrow; have hc1 := hv1.cell; have hf1 := hv1.frozen)
      refine ⟨hk2.from _, ?_, ⟨_, hv2, by rw [hsn, flatA_snoc, List.length_append, List.length_singleton]; exact hr2, trivial⟩, hB1.trans hb2⟩
      exact ((keepInts_alloc hbs _).trans (keepInts_grown (hrow.alloc _) (by decide) hgrow (by simp; omega))).trans (keepInts_setCell hv1 (by decide) (by omega) _)
    · have hd : decide (x.dest ≥ 0) = false := decide_eq_false hx
      rw [if_neg hx, List.append_nil] at hsn
      gi_wp2
      refine ⟨(KeepsOthers.refl W).from _, ?_, ⟨v, bv, by rw [hsn]; exact hrow⟩, hB1⟩
      exact ⟨Below.refl _ _, fun _ _ _ h => h⟩
  case done =>
    rintro D ys W hD hys ⟨⟨v, bv, hrow, _⟩, hB1⟩ hK
    have hc := bv.cell
    gi_wp2
    rw [hys] at hrow
    refine ⟨by simp, .inl ⟨_, _, rfl, run_takeDeferred hK, ?_⟩⟩
    exact ⟨_, results_tmp rfl _ _ _, v, rfl, Lib.hid (ownsRow_putObj hrow _ hK rfl), Lib.hid (hB1.trans (belowK_b (w := w) (Nat.le_refl _) W D _ _ (by omega) hK rfl rfl))⟩
  case stop =>
    rintro D c pre W _ _ h _
    exact h.elim
end Go.Proofs.Ytamgldhnfcikbaa
