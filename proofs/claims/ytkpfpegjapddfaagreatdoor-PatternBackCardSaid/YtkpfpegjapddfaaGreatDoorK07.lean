/- Texts that a proof rests on: Contracts: endOfRun, runs, and the iterator that runs hands back. -/
import Derived.Test.YtkpfpegjapddfaaGreatDoorK05
import Derived.Test.YtkpfpegjapddfaaGreatDoorK03
import Derived.RangeFuncNested
import Derived.RangeFuncBound
import Derived.RangeFuncCalls
import Derived.RangeFuncLeaves
import Derived.RangeFuncBox
import Derived.Shelf.Abstract
import Derived.Shelf.RegionOpen
import Derived.OwnWalkIn
import Derived.TacticsInMore
import Derived.LoopNIn
import Derived.LoopIn
import Derived.Maps.AppendAt
set_option maxRecDepth 100000
namespace Go.Proofs.YtkpfpegjapddfaaGreatDoor
open Go.RowKit Go.Shelf
attribute [local go_sem] Oper.semAt_some

set_option maxHeartbeats 1000000 in
theorem endOfRun_any (g : BitVec 256) (lo : Nat) (hlo : lo < 256) (w : World) (hT : Tab w) :
    Calls Tryz.prog 88 #[(.agg #[.int .u64 (wd (g) 0), .int .u64 (wd (g) 1), .int .u64 (wd (g) 2), .int .u64 (wd (g) 3)]), .int .u8 lo] w fun e w' => e = .returned (.int .i64 (fst g lo)) ∧ Below w.heap.size w w' := by
  rcases Nat.lt_or_ge (fst g lo) 256 with h | h
  · have HV := Lib.hid (fstV_in h)
    go_enter Tryz.func88, Tryz.ntmps88
    go_wp2_with (go_at_call 27; refine (first_nat g lo _ (.inr rfl) (by omega) _ (hT.alloc _)).mono ?_; rw [HV.out]; rintro e w' ⟨rfl, hb1⟩)
    go_ret
    exact ⟨rfl, ((Below.refl _ _).alloc (Nat.le_refl _) _).trans (hb1.mono (by simp))⟩
  · have HV := Lib.hid (fstV_out h)
    have he : fst g lo = 256 := by have := fst_le g lo; omega
    have HE := Lib.hid he
    clear he
    go_enter Tryz.func88, Tryz.ntmps88
    go_wp2_with (go_at_call 27; refine (first_nat g lo _ (.inr rfl) (by omega) _ (hT.alloc _)).mono ?_; rw [HV.out]; rintro e w' ⟨rfl, hb1⟩)
    go_ret
    exact ⟨by rw [HE.out]; rfl, ((Below.refl _ _).alloc (Nat.le_refl _) _).trans (hb1.mono (by simp))⟩
set_option maxHeartbeats 1000000 in
theorem runs_any (s : BitVec 256) (w : World) :
    Calls Tryz.prog 76 #[(.agg #[.int .u64 (wd (s) 0), .int .u64 (wd (s) 1), .int .u64 (wd (s) 2), .int .u64 (wd (s) 3)])] w fun e w' => e = .returned (.func (.func 87) #[] #[.pointer (some ⟨w.heap.size, 0, none⟩)]) ∧ w' = w.alloc (.cells #[.int .u64 (wd s 0), .int .u64 (wd s 1), .int .u64 (wd s 2), .int .u64 (wd s 3)] 24) := by
  go_enter Tryz.func76, Tryz.ntmps76
  go_wp2
  go_ret
  exact ⟨rfl, rfl⟩

/-- Below n₀ all is as it was, and each block that holds a set holds it. -/
def KeepSets (n₀ : Nat) (W W' : World) : Prop := Below n₀ W W' ∧ ∀ (k : Nat) (c : Array Value) (fz : Nat × Nat), W.heap[k]? = some (Obj.cells c 24 fz) → W'.heap[k]? = some (Obj.cells c 24 fz)
theorem KeepSets.set {n₀ : Nat} {W W' : World} (h : KeepSets n₀ W W') {b : Nat} {s : BitVec 256} (hs : SetAt W b s) : SetAt W' b s := h.2 b _ _ hs
theorem KeepSets.trans {n₀ : Nat} {A B C : World} (h : KeepSets n₀ A B) (k : KeepSets n₀ B C) : KeepSets n₀ A C := ⟨h.1.trans k.1, fun i c fz hi => k.2 i c fz (h.2 i c fz hi)⟩
theorem keepSets_b {n₀ : Nat} {w : World} (hn : n₀ ≤ w.heap.size) (W : World) (l : Nat) (o o' : Obj) (hl : w.heap.size ≤ l) (h : W.heap[l]? = some o) (h1 : o.isCells = false) (h2 : o.isWalk = false) : KeepSets n₀ W (W.putObj l o') :=
  ⟨belowK_b hn W l o o' hl h h1 h2, fun k c fz hk => by
    by_cases e : k = l
    · subst e; rw [hk] at h; cases h; cases h1
    · rw [World.putObj_heap_other e]; exact hk⟩
/-- A pair's value. -/
def pairV (q : Nat × Nat) : Value := .agg #[.int .u8 q.1, .int .u8 q.2]
theorem grownN_of_below {W W' : World} (h : Below W.heap.size W W') : W.grownBy W' none := ⟨h.os, h.tape, h.output, h.size, fun k hk _ => h.block k hk⟩
theorem Tab.lower {w w' : World} {n₀ : Nat} (h : Tab w) (hb : Below n₀ w w') (hg : 0 < n₀) : Tab w' :=
  ⟨Nat.lt_of_lt_of_le h.1 hb.size, fun j hj => by rw [hb.cell (p := ⟨_, j, none⟩) hg]; exact h.2 j hj⟩
/-- How much is left, off the two slots. -/
def leftV (v4 v5 : Value) : Nat := match v5 with | .bool true => 257 - (intOf v4).toNat | _ => 0
/-- Where the iterator stands: p bytes are through. -/
def Stands (s : BitVec 256) (p : Nat) (v4 v5 : Value) : Prop := (fst s p < 256 ∧ v4 = .int .u8 (fst s p) ∧ v5 = .bool true) ∨ (256 ≤ fst s p ∧ v4 = .int .u8 0 ∧ v5 = .bool false)
set_option maxHeartbeats 2000000 in
theorem runs1_in (n : Nat) (hn : 1 ≤ n) (l Bs n₀ : Nat) (s : BitVec 256) (J Jx : List (Nat × Nat) → World → Prop)
    (hY : ∀ pre x W, J pre W → pre.length < 256 → YieldAt Fence.wide (n - 1) Tryz.prog l #[.agg #[.int .u8 x.1, .int .u8 x.2]] W fun e W' =>
      (e = .returned (.bool true) ∧ J (pre ++ [x]) W' ∧ KeepSets n₀ W W') ∨ (e = .returned (.bool false) ∧ Jx (pre ++ [x]) W'))
    (W : World) (hA : AbidesFrom W.heap.size J) (hT : Tab W) (hg : 0 < n₀) (hs : SetAt W Bs s) (h0 : J [] W) :
    CallsIn Fence.wide n Tryz.prog 87 #[.func (.yield l) #[] #[], .pointer (some ⟨Bs, 0, none⟩)] W fun e W' => (∃ v, e = .returned v) ∧
      ((∃ ys, ys = runs s 0 ∧ J ys W') ∨ (∃ pre, pre <+: runs s 0 ∧ Jx pre W')) := by
  have HY := Lib.hid hY
  have HA := Lib.hid hA
  clear hY hA
  refine callsIn_of_wp Tryz.func87 rfl trivial ?_ rfl
  simp only [Tryz.ntmps87, List.size_toArray, List.length_cons, List.length_nil, Nat.reduceAdd, Nat.reduceSub, Array.replicate_succ, Array.replicate_zero, List.push_toArray, List.append_toArray, List.nil_append, List.cons_append]
  obtain ⟨c0, c1, c2, c3⟩ := hs.cells
  have HV : Hid (∃ v4 v5, fstV (fst s 0) = .tuple #[v4, v5] ∧ Stands s 0 v4 v5) := by
    rcases Nat.lt_or_ge (fst s 0) 256 with h | h
    · exact ⟨_, _, fstV_in h, .inl ⟨h, rfl, rfl⟩⟩
    · exact ⟨_, _, fstV_out h, .inr ⟨h, rfl, rfl⟩⟩
  gi_wp2_with (refine ⟨trivial, ?_⟩; gi_at_call 55; refine (callsIn_wide.2 (not_any s _)).mono ?_; rintro e w1 ⟨rfl, hb1⟩; obtain ⟨d0, d1, d2, d3⟩ := (hs.grown hb1).cells; have hl1 := (hs.grown hb1).lt)
  obtain ⟨v4, v5, hv, hst⟩ := HV.out
  have hw2 : Below W.heap.size W (w1.alloc (.cells #[.int .u64 (wd (~~~s) 0), .int .u64 (wd (~~~s) 1), .int .u64 (wd (~~~s) 2), .int .u64 (wd (~~~s) 3)] 24)) := hb1.alloc hb1.size _
  refine ⟨trivial, ?_⟩
  refine (callsIn_wide.2 (first_nat s 0 0 (.inr rfl) (by omega) _ (hT.below hw2))).mono ?_
  rw [hv]
  rintro e w2 ⟨rfl, hb2⟩
  have hs2 : SetAt w2 Bs s := (hs.grown hw2).grown hb2
  have hg2 : SetAt w2 w1.heap.size (~~~s) := (SetAt.new w1 _).grown hb2
  have hT2 : Tab w2 := (hT.below hw2).below hb2
  have hJ2 : J [] w2 := HA.out [] W w2 none h0 (grownN_of_below (hw2.trans (hb2.mono hw2.size))) (fun r e => by cases e)
  have hsz2 : W.heap.size ≤ w2.heap.size := (hw2.trans (hb2.mono hw2.size)).size
  clear hb2 hw2 hv hb1 d0 d1 d2 d3 c0 c1 c2 c3 h0 hT hs HV
  gi_wp2
  gi_loopw [4, 5] (fun a b wr => ∃ (p : Nat) (pre : List (Nat × Nat)), Stands s p a b ∧ p ≤ 256 ∧ runs s 0 = pre ++ runs s p ∧ SetAt wr Bs s ∧ SetAt wr w1.heap.size (~~~s) ∧ Tab wr ∧ W.heap.size ≤ wr.heap.size ∧ J pre wr) (fun a b _ => leftV a b)
  case atStart => exact ⟨0, [], hst, by omega, rfl, hs2, hg2, hT2, hsz2, hJ2⟩
  case round =>
    obtain ⟨p, pre, hst, hp, hpre, hs3, hg3, hT3, hsz3, hJ3⟩ := hrel
    clear hs2 hg2 hT2 hJ2
    rcases hst with ⟨h1, rfl, rfl⟩ | ⟨h1, rfl, rfl⟩
    · obtain ⟨n1, n2, n3⟩ := fst_not h1
      have hlen : pre.length < 256 := by
        have h := runs_length s 256 0 (by omega)
        rw [hpre, runs_more h1] at h
        simp at h; omega
      have hrm := runs_more h1
      obtain ⟨lo, hlo⟩ : ∃ lo, fst s p = lo := ⟨_, rfl⟩
      rw [hlo] at h1 n1 n2 n3 hrm
      obtain ⟨e, he⟩ : ∃ e, fst (~~~s) lo = e + 1 := ⟨fst (~~~s) lo - 1, by omega⟩
      rw [he] at n2 n3 hrm
      rw [hlo]
      have HLO := Lib.hid hlo
      have HE := Lib.hid he
      have HRM := Lib.hid hrm
      have HPRE := Lib.hid hpre
      clear hlo he hrm hpre
      obtain ⟨c0, c1, c2, c3⟩ := hg3.cells
      gi_wp2_with (refine ⟨trivial, ?_⟩; gi_at_call 88; refine (callsIn_wide.2 (endOfRun_any (~~~s) lo h1 _ hT3)).mono ?_; rw [HE.out]; rintro er w3 ⟨rfl, hb3⟩; obtain ⟨fn, tmps, assign, body, hy, hR⟩ := HY.out pre (lo, e) w3 (HA.out pre wr w3 none hJ3 (grownN_of_below hb3) (fun r e => by cases e)) hlen; dsimp only at hy; have HR := Lib.hid hR; clear hR)
      refine HR.out.mono ?_
      clear HR hy
      have hs4 := hs3.grown hb3
      have hg4 := hg3.grown hb3
      have hT4 := hT3.below hb3
      have hsz4 := Nat.le_trans hsz3 hb3.size
      clear hs3 hg3 hT3 hJ3 hsz3 hb3 c0 c1 c2 c3
      rintro er W3 (⟨rfl, hJ5, hk5⟩ | ⟨rfl, hJx5⟩)
      · have hs5 := hk5.set hs4
        have hg5 := hk5.set hg4
        have hT5 := hT4.lower hk5.1 hg
        have hsz5 := Nat.le_trans hsz4 hk5.1.size
        clear hs4 hg4 hT4 hsz4 hk5
        obtain ⟨c0, c1, c2, c3⟩ := hs5.cells
        have HV : Hid (∃ v4 v5, fstV (fst s (e + 1)) = .tuple #[v4, v5] ∧ Stands s (e + 1) v4 v5 ∧ leftV v4 v5 < leftV (.int .u8 lo) (.bool true)) := by
          rcases Nat.lt_or_ge (fst s (e + 1)) 256 with h | h
          · refine ⟨_, _, fstV_in h, .inl ⟨h, rfl, rfl⟩, ?_⟩
            have := (fst_not h).1
            simp only [leftV, intOf, Int.toNat_natCast]
            omega
          · refine ⟨_, _, fstV_out h, .inr ⟨h, rfl, rfl⟩, ?_⟩
            simp only [leftV, intOf, Int.toNat_natCast]
            omega
        obtain ⟨v4, v5, hv, hst5, hleft⟩ := HV.out
        have HV5 := Lib.hid hv
        have HL5 := Lib.hid hleft
        clear HV hv hleft
        gi_wp2_with (refine ⟨trivial, ?_⟩; gi_at_call 27; refine (callsIn_wide.2 (first_nat s (e + 1) _ (.inr rfl) (by omega) _ hT5)).mono ?_; rw [HV5.out]; rintro er w6 ⟨rfl, hb6⟩)
        go_roundw
        case rel => exact ⟨e + 1, pre ++ [(lo, e)], hst5, by omega, by rw [HPRE.out, HRM.out]; simp, hs5.grown hb6, hg5.grown hb6, hT5.below hb6, Nat.le_trans hsz5 hb6.size, HA.out _ W3 w6 none hJ5 (grownN_of_below hb6) (fun r e => by cases e)⟩
        case measure => exact HL5.out
      · gi_wp2
        refine bodyPost_ret (results_none rfl _ _ _) rfl ?_
        exact ⟨⟨_, rfl⟩, .inr ⟨pre ++ [(lo, e)], ⟨runs s (e + 1), by rw [HPRE.out, HRM.out]; simp⟩, hJx5⟩⟩
    · gi_wp2
      go_end0
      exact ⟨⟨_, rfl⟩, .inl ⟨pre, by rw [hpre, runs_end h1]; simp, hJ3⟩⟩
end Go.Proofs.YtkpfpegjapddfaaGreatDoor
