/- Contracts of homographref02: Set, Many, Rep, Size, Null. -/
import Derived.Test.YtnjcefjcpmjdiaaD3
import Derived.Test.YtnjcefjcpmjdiaaB1
import Derived.Deep.RegionWith
set_option maxRecDepth 20000
namespace Go.Proofs.Ytnjcefjcpmjdiaa
open Go.RowKit

set_option maxHeartbeats 400000 in
theorem rset_any (s : BitVec 256) (w : World) :
    Calls Try.prog 15 #[(.agg #[.int .u64 (wd (s) 0), .int .u64 (wd (s) 1), .int .u64 (wd (s) 2), .int .u64 (wd (s) 3)])] w fun e w' => e = .returned (.agg #[.int .i64 (Pat.mk 0 s 0 0 []).op, .int .u64 (wd (Pat.mk 0 s 0 0 []).set 0), .int .u64 (wd (Pat.mk 0 s 0 0 []).set 1), .int .u64 (wd (Pat.mk 0 s 0 0 []).set 2), .int .u64 (wd (Pat.mk 0 s 0 0 []).set 3), .int .i64 (Pat.mk 0 s 0 0 []).lo, .int .i64 (Pat.mk 0 s 0 0 []).hi, .slice none 0 0]) ∧ Below w.heap.size w w' := by
  go_enter Try.func15, Try.ntmps15
  go_wp2
  refine bodyPost_ret (v := (.agg #[.int .i64 (Pat.mk 0 s 0 0 []).op, .int .u64 (wd (Pat.mk 0 s 0 0 []).set 0), .int .u64 (wd (Pat.mk 0 s 0 0 []).set 1), .int .u64 (wd (Pat.mk 0 s 0 0 []).set 2), .int .u64 (wd (Pat.mk 0 s 0 0 []).set 3), .int .i64 (Pat.mk 0 s 0 0 []).lo, .int .i64 (Pat.mk 0 s 0 0 []).hi, .slice none 0 0])) (by simp [results, Try.results15, go_sem, Pat.op, Pat.set, Pat.lo, Pat.hi]) rfl ⟨rfl, ?_⟩
  exact ((Below.refl _ _).alloc (Nat.le_refl _) _).alloc (by simp) _
set_option maxHeartbeats 400000 in
theorem rmany_any (op : Int) (ks : Value) (kids : List Pat) (w : World) (hk : Kids w kids ks) :
    Calls Try.prog 17 #[.int .i64 op, ks] w fun e w' => e = .returned (.agg #[.int .i64 (Pat.mk op 0 0 0 kids).op, .int .u64 (wd (Pat.mk op 0 0 0 kids).set 0), .int .u64 (wd (Pat.mk op 0 0 0 kids).set 1), .int .u64 (wd (Pat.mk op 0 0 0 kids).set 2), .int .u64 (wd (Pat.mk op 0 0 0 kids).set 3), .int .i64 (Pat.mk op 0 0 0 kids).lo, .int .i64 (Pat.mk op 0 0 0 kids).hi, ks]) ∧ Below w.heap.size w w' := by
  obtain ⟨a, cap, rfl⟩ := hk.len
  go_enter Try.func17, Try.ntmps17
  go_wp2
  refine bodyPost_ret (v := (.agg #[.int .i64 (Pat.mk op 0 0 0 kids).op, .int .u64 (wd (Pat.mk op 0 0 0 kids).set 0), .int .u64 (wd (Pat.mk op 0 0 0 kids).set 1), .int .u64 (wd (Pat.mk op 0 0 0 kids).set 2), .int .u64 (wd (Pat.mk op 0 0 0 kids).set 3), .int .i64 (Pat.mk op 0 0 0 kids).lo, .int .i64 (Pat.mk op 0 0 0 kids).hi, .slice a kids.length cap])) (by simp [results, Try.results17, go_sem, Pat.op, Pat.set, Pat.lo, Pat.hi, wd_none]) rfl ⟨rfl, ?_⟩
  exact ((Below.refl _ _).alloc (Nat.le_refl _) _)
set_option maxHeartbeats 400000 in
theorem rmany_sl (op : Int) (a : Option Addr) (n cap : Nat) (kids : List Pat) (w : World) :
    Calls Try.prog 17 #[.int .i64 op, .slice a n cap] w fun e w' => e = .returned (.agg #[.int .i64 (Pat.mk op 0 0 0 kids).op, .int .u64 (wd (Pat.mk op 0 0 0 kids).set 0), .int .u64 (wd (Pat.mk op 0 0 0 kids).set 1), .int .u64 (wd (Pat.mk op 0 0 0 kids).set 2), .int .u64 (wd (Pat.mk op 0 0 0 kids).set 3), .int .i64 (Pat.mk op 0 0 0 kids).lo, .int .i64 (Pat.mk op 0 0 0 kids).hi, .slice a n cap]) ∧ Below w.heap.size w w' := by
  go_enter Try.func17, Try.ntmps17
  go_wp2
  refine bodyPost_ret (v := (.agg #[.int .i64 (Pat.mk op 0 0 0 kids).op, .int .u64 (wd (Pat.mk op 0 0 0 kids).set 0), .int .u64 (wd (Pat.mk op 0 0 0 kids).set 1), .int .u64 (wd (Pat.mk op 0 0 0 kids).set 2), .int .u64 (wd (Pat.mk op 0 0 0 kids).set 3), .int .i64 (Pat.mk op 0 0 0 kids).lo, .int .i64 (Pat.mk op 0 0 0 kids).hi, .slice a n cap])) (by simp [results, Try.results17, go_sem, Pat.op, Pat.set, Pat.lo, Pat.hi, wd_none]) rfl ⟨rfl, ?_⟩
  exact ((Below.refl _ _).alloc (Nat.le_refl _) _)
set_option maxHeartbeats 400000 in
theorem rrep_any (p : Pat) (ks : Value) (lo hi : Int) (w : World) (hk : Kids w p.kids ks) :
    Calls Try.prog 22 #[(.agg #[.int .i64 p.op, .int .u64 (wd p.set 0), .int .u64 (wd p.set 1), .int .u64 (wd p.set 2), .int .u64 (wd p.set 3), .int .i64 p.lo, .int .i64 p.hi, ks]), .int .i64 lo, .int .i64 hi] w fun e w' => ∃ ks', e = .returned (.agg #[.int .i64 (Pat.mk 3 0 lo hi [p]).op, .int .u64 (wd (Pat.mk 3 0 lo hi [p]).set 0), .int .u64 (wd (Pat.mk 3 0 lo hi [p]).set 1), .int .u64 (wd (Pat.mk 3 0 lo hi [p]).set 2), .int .u64 (wd (Pat.mk 3 0 lo hi [p]).set 3), .int .i64 (Pat.mk 3 0 lo hi [p]).lo, .int .i64 (Pat.mk 3 0 lo hi [p]).hi, ks']) ∧ Kids w' [p] ks' ∧ Below w.heap.size w w' := by
  have hk0 := hk
  obtain ⟨a, cap, rfl⟩ := hk.len
  go_enter Try.func22, Try.ntmps22
  go_wp2
  refine bodyPost_ret (v := (.agg #[.int .i64 (Pat.mk 3 0 lo hi [p]).op, .int .u64 (wd (Pat.mk 3 0 lo hi [p]).set 0), .int .u64 (wd (Pat.mk 3 0 lo hi [p]).set 1), .int .u64 (wd (Pat.mk 3 0 lo hi [p]).set 2), .int .u64 (wd (Pat.mk 3 0 lo hi [p]).set 3), .int .i64 (Pat.mk 3 0 lo hi [p]).lo, .int .i64 (Pat.mk 3 0 lo hi [p]).hi, .slice (some ⟨w.heap.size + 1 + 1, 0, none⟩) 1 1])) (by simp [results, Try.results22, go_sem, Pat.op, Pat.set, Pat.lo, Pat.hi, wd_none]) rfl ⟨_, rfl, ?_, ?_⟩
  · exact (hk0.below (below2 _ _ _)).one (by simp)
  · exact below3 _ _ _ _
set_option maxHeartbeats 1000000 in
theorem rsize_any : ∀ (n : Nat) (p : Pat) (ks : Value) (w : World), p.size < n → n ≤ 100000 → Kids w p.kids ks →
    Calls Try.prog 26 #[(.agg #[.int .i64 p.op, .int .u64 (wd p.set 0), .int .u64 (wd p.set 1), .int .u64 (wd p.set 2), .int .u64 (wd p.set 3), .int .i64 p.lo, .int .i64 p.hi, ks])] w fun e w' => e = .returned (.int .i64 p.size) ∧ Below w.heap.size w w' := by
  intro n
  induction n with
  | zero => intro p ks w h; omega
  | succ n ih =>
    intro p ks w hn hmax hk
    have hse := size_eq p
    have hlen := length_sizes p.kids
    have IH := Lib.hid ih
    clear ih
    have HSE := Lib.hid hse
    generalize hkk : p.kids = kids at *
    rcases hk with ⟨rfl, a, cap, rfl⟩ | ⟨b, o, cap, rfl, hr⟩
    · have HS : Hid (p.size = 1) := by rw [Hid, hse]; rfl
      go_enter Try.func26, Try.ntmps26
      go_wp2_with fail
      refine wp_loop_rounds 1 ?_
      rw [rounds_succ]; go_wp2_with fail
      go_ret
      exact ⟨by rw [HS.out]; rfl, (Below.refl _ _).alloc (Nat.le_refl _) _⟩
    · go_enter Try.func26, Try.ntmps26
      go_wp2_with fail
      go_loopw [3, 4] (fun m i wr => ∃ k : Nat, k ≤ kids.length ∧ i = .int .i64 k ∧ m = .int .i64 (1 + Pat.sizes (kids.take k) : Nat) ∧ wr.cell? ⟨w.heap.size, 7, none⟩ = some (.slice (some ⟨b, o, none⟩) kids.length cap) ∧ Below w.heap.size w wr) (fun _ i _ => kids.length - (intOf i).toNat)
      case atStart => exact ⟨0, by omega, rfl, rfl, by simp, (Below.refl _ _).alloc (Nat.le_refl _) _⟩
      case round =>
        obtain ⟨k, hk, rfl, rfl, hc7, hbw⟩ := hrel
        have hst := sizes_take kids k
        by_cases hlt : k < kids.length
        · obtain ⟨ks', hks, e0, e1, e2, e3, e4, e5, e6, e7⟩ := ((hr.below hbw).at k hlt).load
          have hsz := size_kid kids k hlt
          have HS : Hid (1 + Pat.sizes (kids.take (k + 1)) = 1 + Pat.sizes (kids.take k) + kids[k].size) := by rw [Hid, sizes_at kids k hlt]; omega
          have hst2 := sizes_take kids (k + 1)
          have hs1 : Pat.sizes (kids.take k) + kids[k].size ≤ Pat.sizes kids := by have := HS.out; omega
          generalize kids[k] = q at *
          go_wp2_with (go_at_call 26; refine (IH.out q ks' _ (by omega) (by omega) hks).mono ?_; rintro e w2 ⟨rfl, hb2⟩)
          go_roundw
          case rel => exact ⟨k + 1, by omega, num_succ k, by rw [HS.out]; simp, cell_below hb2 hc7, hbw.trans (hb2.mono hbw.size)⟩
          case measure => simp [intOf]; omega
        · obtain rfl : k = kids.length := by omega
          rw [List.take_length]
          go_wp2_with fail
          go_ret
          exact ⟨by rw [HSE.out]; rfl, hbw⟩
theorem all_take (l : List Pat) (f : Pat → Bool) (k : Nat) (h : k < l.length) : (l.take (k + 1)).all f = ((l.take k).all f && f l[k]) := by
  rw [List.take_succ_eq_append_getElem h, List.all_append]; simp
theorem any_take (l : List Pat) (f : Pat → Bool) (k : Nat) (h : k < l.length) : (l.take (k + 1)).any f = ((l.take k).any f || f l[k]) := by
  rw [List.take_succ_eq_append_getElem h, List.any_append]; simp
theorem rnul_case (p : Pat) (a o : Bool) (ha : p.kids.all Pat.rnul = a) (ho : p.kids.any Pat.rnul = o) : p.rnul = (bif p.op == 1 then a else bif p.op == 4 then a else bif p.op == 2 then o else bif p.op == 3 then (p.lo == 0 || o) else bif p.op == 5 then !o else false) := by
  rw [rnul_eq, ha, ho]
set_option maxHeartbeats 2000000 in
theorem rnull_any : ∀ (n : Nat) (p : Pat) (ks : Value) (w : World), p.size < n → n ≤ 100000 → Kids w p.kids ks →
    Calls Try.prog 24 #[(.agg #[.int .i64 p.op, .int .u64 (wd p.set 0), .int .u64 (wd p.set 1), .int .u64 (wd p.set 2), .int .u64 (wd p.set 3), .int .i64 p.lo, .int .i64 p.hi, ks])] w fun e w' => e = .returned (.bool p.rnul) ∧ Below w.heap.size w w' := by
  intro n
  induction n with
  | zero => intro p ks w h; omega
  | succ n ih =>
    intro p ks w hn hmax hk
    have hse := size_eq p
    have hlen := length_sizes p.kids
    have IH := Lib.hid ih
    clear ih
    have HC := Lib.hid (rnul_case p)
    have hl := hk.len
    generalize hkk : p.kids = kids at *
    obtain ⟨a, cap, rfl⟩ := hl
    go_enter Try.func24, Try.ntmps24
    go_wp2_with fail
    go_loopw [3, 4, 5] (fun al on i wr => ∃ k : Nat, k ≤ kids.length ∧ i = .int .i64 k ∧ al = .bool ((kids.take k).all Pat.rnul) ∧ on = .bool ((kids.take k).any Pat.rnul) ∧ wr.cell? ⟨w.heap.size, 0, none⟩ = some (.int .i64 p.op) ∧ wr.cell? ⟨w.heap.size, 5, none⟩ = some (.int .i64 p.lo) ∧ wr.cell? ⟨w.heap.size, 7, none⟩ = some (.slice a kids.length cap) ∧ Below w.heap.size w wr) (fun _ _ i _ => kids.length - (intOf i).toNat)
    case atStart => exact ⟨0, by omega, rfl, rfl, rfl, by simp, by simp, by simp, (Below.refl _ _).alloc (Nat.le_refl _) _⟩
    case round =>
      obtain ⟨k, hkk2, rfl, rfl, rfl, hc0, hc5, hc7, hbw⟩ := hrel
      by_cases hlt : k < kids.length
      · obtain ⟨b, o, cap', e, hr⟩ := hk.row (by omega)
        cases e
        · obtain ⟨ks', hks, e0, e1, e2, e3, e4, e5, e6, e7⟩ := ((hr.below hbw).at k hlt).load
          have hsz := size_kid kids k hlt
          have HA := Lib.hid (all_take kids Pat.rnul k hlt)
          have HO := Lib.hid (any_take kids Pat.rnul k hlt)
          generalize (kids.take k).all Pat.rnul = al at *
          generalize (kids.take k).any Pat.rnul = on at *
          generalize kids[k] = q at *
          cases hq : q.rnul <;> (have HQ := Lib.hid hq; clear hq; cases al <;> cases on)
          all_goals
            go_wp2_with (go_at_call 24; refine (IH.out q ks' _ (by omega) (by omega) hks).mono ?_; rw [HQ.out]; rintro e w2 ⟨rfl, hb2⟩)
            go_roundw
            case rel => exact ⟨k + 1, by omega, num_succ k, by rw [HA.out, HQ.out]; rfl, by rw [HO.out, HQ.out]; rfl, cell_below hb2 hc0, cell_below hb2 hc5, cell_below hb2 hc7, hbw.trans (hb2.mono hbw.size)⟩
            case measure => simp [intOf]; omega
      · obtain rfl : k = kids.length := by omega
        rw [List.take_length] at *
        have HC2 := Lib.hid (HC.out _ _ rfl rfl)
        generalize kids.all Pat.rnul = al at *
        generalize kids.any Pat.rnul = on at *
        clear HC
        by_cases g1 : p.op = 1
        · have HR : Hid (p.rnul = al) := by rw [Hid, HC2.out, g1]; rfl
          go_wp2_with fail
          go_ret
          exact ⟨by rw [HR.out]; rfl, hbw⟩
        by_cases g4 : p.op = 4
        · have HR : Hid (p.rnul = al) := by rw [Hid, HC2.out, g4]; rfl
          go_wp2_with fail
          go_ret
          exact ⟨by rw [HR.out]; rfl, hbw⟩
        by_cases g2 : p.op = 2
        · have HR : Hid (p.rnul = on) := by rw [Hid, HC2.out, g2]; rfl
          go_wp2_with fail
          go_ret
          exact ⟨by rw [HR.out]; rfl, hbw⟩
        by_cases g3 : p.op = 3
        · by_cases gl : p.lo = 0
          · have HR : Hid (p.rnul = true) := by rw [Hid, HC2.out, g3, gl]; rfl
            go_wp2_with fail
            go_ret
            exact ⟨by rw [HR.out]; rfl, hbw⟩
          · have gl2 : (p.lo == 0) = false := by simpa using gl
            have HR : Hid (p.rnul = on) := by rw [Hid, HC2.out, g3, gl2]; rfl
            have HG := Lib.hid gl2
            clear gl2
            go_wp2_with fail
            go_ret
            refine ⟨?_, hbw⟩
            rw [HR.out]
            show Ending.returned (Value.bool (p.lo == 0 || on)) = _
            rw [HG.out]; rfl
        by_cases g5 : p.op = 5
        · have HR : Hid (p.rnul = !on) := by rw [Hid, HC2.out, g5]; rfl
          go_wp2_with fail
          go_ret
          exact ⟨by rw [HR.out]; rfl, hbw⟩
        · have HR : Hid (p.rnul = false) := by rw [Hid, HC2.out, show (p.op == 1) = false by simpa using g1, show (p.op == 4) = false by simpa using g4, show (p.op == 2) = false by simpa using g2, show (p.op == 3) = false by simpa using g3, show (p.op == 5) = false by simpa using g5]; rfl
          go_wp2_with fail
          go_ret
          exact ⟨by rw [HR.out]; rfl, hbw⟩
end Go.Proofs.Ytnjcefjcpmjdiaa
