/- Contracts: each, and the iterator that it hands back. -/
import Derived.Test.YtplgnbedcjanhaaBf
import Derived.RangeFuncNested
import Derived.RangeFuncBound
import Derived.RangeFuncCalls
import Derived.RangeFuncLeaves
import Derived.RangeFuncBox
import Derived.Shelf.Abstract
import Derived.OwnWalkIn
import Derived.TacticsInMore
import Derived.LoopNIn
import Derived.LoopIn
set_option maxRecDepth 100000
namespace Go.Proofs.Ytplgnbedcjanhaa
open Go.RowKit Go.Shelf
attribute [local go_sem] Oper.semAt_some

/-- What the iterator hands out: a word and true; at last what is none, and false. -/
abbrev Item := Wd × Bool
def itemsOf (r : List Wd × Option Nat) : List Item := r.1.map (fun x => (x, true)) ++ (match r.2 with | none => [] | some e => [(⟨0, [], e⟩, false)])
def wdV (x : Wd) : Value := .agg #[.int .i64 x.kind, .string (strOf x.txt), .int .i64 (x.pos : Nat)]
theorem items_end {l : List Nat} {p : Nat} (h : ¬ p < l.length) : itemsOf (wds l p) = [] := by rw [wds_end h]; rfl
theorem items_bad {l : List Nat} {p : Nat} (h : p < l.length) (hz : (fstW (l.drop p)).2 = 0) : itemsOf (wds l p) = [(⟨0, [], p⟩, false)] := by rw [wds_bad h hz]; rfl
theorem items_more {l : List Nat} {p k n q : Nat} (h : p < l.length) (hf : fstW (l.drop p) = (k, n)) (hn : n ≠ 0) (hq : p + n + skN false (l.drop (p + n)) = q) : itemsOf (wds l p) = (⟨k, insT k ((l.drop p).take n), p⟩, true) :: itemsOf (wds l q) := by
  rw [wds_more h hf hn hq]; rfl
theorem items_len (l : List Nat) (p : Nat) : (itemsOf (wds l p)).length ≤ l.length - p + 1 := by
  have h := wds_len (l := l) (n := l.length - p) (p := p) (Nat.le_refl _)
  unfold itemsOf
  rw [List.length_append, List.length_map]
  split <;> simp <;> omega
theorem fst_two {l : List Nat} {k n : Nat} (h : fstW l = (k, n)) (hn : n ≠ 0) (hk : k = 2) : 2 ≤ n := by
  cases l with
  | nil => have := (Prod.mk.inj h).1; omega
  | cons b t =>
    cases hL : isLet b with
    | true => rw [fst_let hL] at h; have := (Prod.mk.inj h).1; omega
    | false =>
      cases hD : isDig b with
      | true => rw [fst_dig hL hD] at h; have := (Prod.mk.inj h).1; omega
      | false =>
        by_cases h47 : b = 47
        · rw [fst_slash hL hD h47] at h
          have h2 := (Prod.mk.inj h).2
          have := slN_gt false 1 t (by omega)
          omega
        · by_cases hm : b = 58 ∨ b = 124 ∨ b = 59
          · rw [fst_mark hL hD h47 hm] at h; have := (Prod.mk.inj h).1; omega
          · rw [fst_none hL hD h47 hm] at h; have := (Prod.mk.inj h).1; omega
theorem fst_fits {l : List Nat} {k n p : Nat} (h : fstW (l.drop p) = (k, n)) : n ≤ l.length - p := by
  have := fstW_le (l.drop p)
  rw [h, List.length_drop] at this
  exact this
theorem each_any (s : ByteArray) (w : World) :
    Calls Try.prog 18 #[.string s] w fun e w' => e = .returned (.func (.func 30) #[] #[.pointer (some ⟨w.heap.size, 0, none⟩)]) ∧ w' = w.alloc (.cells #[.string s] 9) := by
  go_enter Try.func18, Try.ntmps18
  go_wp2
  go_ret
  exact ⟨rfl, rfl⟩
/-- Below n₀ all is as it was, and boxes of texts stay. -/
def KeepS (n₀ : Nat) (W W' : World) : Prop := Below n₀ W W' ∧ ∀ (k : Nat) (c : Array Value) (fz : Nat × Nat), W.heap[k]? = some (Obj.cells c 9 fz) → W'.heap[k]? = some (Obj.cells c 9 fz)
theorem KeepS.box {n₀ : Nat} {W W' : World} (h : KeepS n₀ W W') {b : Nat} {v : Value} (hs : Boxed W b 9 v) : Boxed W' b 9 v := h.2 b _ _ hs
theorem KeepS.trans {n₀ : Nat} {A B C : World} (h : KeepS n₀ A B) (k : KeepS n₀ B C) : KeepS n₀ A C := ⟨h.1.trans k.1, fun i c fz hi => k.2 i c fz (h.2 i c fz hi)⟩
theorem keepS_b {n₀ : Nat} {w : World} (hn : n₀ ≤ w.heap.size) (W : World) (l : Nat) (o o' : Obj) (hl : w.heap.size ≤ l) (h : W.heap[l]? = some o) (h1 : o.isCells = false) (h2 : o.isWalk = false) : KeepS n₀ W (W.putObj l o') :=
  ⟨belowK_b hn W l o o' hl h h1 h2, fun k c fz hk => by
    by_cases e : k = l
    · subst e; rw [hk] at h; cases h; cases h1
    · rw [World.putObj_heap_other e]; exact hk⟩
theorem grown_of_below {W W' : World} (h : Below W.heap.size W W') : W.grownBy W' none := ⟨h.os, h.tape, h.output, h.size, fun k hk _ => h.block k hk⟩
theorem boxed_below {W W' : World} {b : Nat} {t : TypeId} {v : Value} (h : Boxed W b t v) (hb : Below W.heap.size W W') : Boxed W' b t v := (hb.block b h.lt).trans h
set_option linter.unusedSimpArgs false in
set_option maxHeartbeats 8000000 in
theorem each1_in (n : Nat) (hn : 1 ≤ n) (y Bs n₀ : Nat) (s : ByteArray) (l : List Nat) (hsl : bytesOf s = l) (hsz : s.size ≤ 65536) (J Jx : List Item → World → Prop)
    (hY : ∀ pre x W, J pre W → pre.length < 70000 → YieldAt Fence.wide (n - 1) Try.prog y #[wdV x.1, .bool x.2] W fun e W' =>
      (e = .returned (.bool true) ∧ J (pre ++ [x]) W' ∧ KeepS n₀ W W') ∨ (e = .returned (.bool false) ∧ Jx (pre ++ [x]) W'))
    (W : World) (hA : AbidesFrom W.heap.size J) (hb : Boxed W Bs 9 (.string s)) (hn0 : n₀ ≤ W.heap.size) (h0 : J [] W) :
    CallsIn Fence.wide n Try.prog 30 #[.func (.yield y) #[] #[], .pointer (some ⟨Bs, 0, none⟩)] W fun e W' => (∃ v, e = .returned v) ∧
      ((∃ ys, ys = itemsOf (allW l) ∧ J ys W') ∨ (∃ pre, pre <+: itemsOf (allW l) ∧ Jx pre W')) := by
  have HY := Lib.hid hY
  have HA := Lib.hid hA
  have hl : l.length = s.size := by rw [← hsl, bytesOf_len]
  have HL := Lib.hid hl
  have HSK := Lib.hid (fun (p : Nat) (hp : p ≤ s.size) W => skip_any s l hsl (by omega) p hp W)
  have HFI := Lib.hid (fun k W => first_any (s.extract k s.size) (l.drop k) (by rw [ext_rest, hsl]) (by have := ext_rest s k; have h2 := congrArg List.length this; rw [bytesOf_len, List.length_drop, bytesOf_len] at h2; omega) W)
  have HIN : Hid (∀ (kd k n : Nat) W, n ≤ s.size - k → k ≤ s.size → (kd = 2 → 2 ≤ n) → Calls Try.prog 32 #[.int .i64 kd, .string (s.extract k (k + n))] W fun e w' => e = .returned (.string (strOf (insT kd ((l.drop k).take n)))) ∧ Hid (Below W.heap.size W w')) := Lib.hid (fun kd k n W h1 h2 h3 => by
    have hb : bytesOf (s.extract k (k + n)) = (l.drop k).take n := by rw [ext_bytes, hsl, List.take_drop]
    have hz : (s.extract k (k + n)).size = n := by rw [← bytesOf_len, hb, List.length_take, List.length_drop, hl]; omega
    exact inside_any kd (s.extract k (k + n)) ((l.drop k).take n) hb (by omega) (by rw [hz]; exact h3) W)
  have HALL : Hid (0 + skN false (l.drop 0) ≤ s.size ∧ itemsOf (allW l) = [] ++ itemsOf (wds l (0 + skN false (l.drop 0)))) := Lib.hid ⟨by have := skN_le false (l.drop 0); rw [List.length_drop] at this; omega, by rw [List.drop_zero, Nat.zero_add]; rfl⟩
  have HIL := Lib.hid (items_len l (skN false l))
  have HIL : Hid ((itemsOf (allW l)).length ≤ 65537) := Lib.hid (Nat.le_trans HIL.out (by omega))
  have hb0 := hb.cell
  have HB := Lib.hid hb
  have HJ0 := Lib.hid h0
  have HS0 := Lib.hid (HSK.out 0 (Nat.zero_le _))
  have HN0 := Lib.hid hn0
  clear hY hA hsl hl h0 hb hn0
  refine callsIn_of_wp Try.func30 rfl trivial ?_ rfl
  simp only [Try.ntmps30, List.size_toArray, List.length_cons, List.length_nil, Nat.reduceAdd, Nat.reduceSub, Array.replicate_succ, Array.replicate_zero, List.push_toArray, List.append_toArray, List.nil_append, List.cons_append]
  generalize 0 + skN false (l.drop 0) = p0 at *
  gi_wp2_with (refine ⟨trivial, ?_⟩; gi_at_call 31; refine (callsIn_wide.2 (HS0.out _)).mono ?_; rintro e w5 ⟨rfl, e5⟩; subst w5)
  clear hb0 HS0
  gi_loopw [3] (fun z wr => ∃ (k : Nat) (pre : List Item), z = .int .i64 k ∧ k ≤ s.size ∧ Hid (itemsOf (allW l) = pre ++ itemsOf (wds l k)) ∧ Hid (Boxed wr Bs 9 (.string s)) ∧ Hid (n₀ ≤ wr.heap.size) ∧ Hid (W.heap.size ≤ wr.heap.size) ∧ Hid (J pre wr)) (fun z _ => s.size - (intOf z).toNat)
  case atStart => exact ⟨p0, [], rfl, HALL.out.1, Lib.hid HALL.out.2, HB, HN0, Lib.hid (Nat.le_refl _), HJ0⟩
  case round =>
    clear HALL HB HN0 HJ0
    obtain ⟨k, pre, rfl, hk, HI, HB, HN0, HSZ, HJ⟩ := hrel
    have hb0 := HB.out.cell
    by_cases hlt : k < s.size
    · have hd : decide ((k : Int) < s.size) = true := decide_eq_true (by omega)
      have hki : (k : Int) < s.size := by omega
      have HF := Lib.hid (HFI.out k)
      have hkl : k < l.length := by rw [HL.out]; exact hlt
      obtain ⟨kd, hkd⟩ : ∃ kd, (fstW (l.drop k)).1 = kd := ⟨_, rfl⟩
      obtain ⟨nn, hnn⟩ : ∃ nn, (fstW (l.drop k)).2 = nn := ⟨_, rfl⟩
      have hff : fstW (l.drop k) = (kd, nn) := by rw [← hkd, ← hnn]
      rw [hff] at HF
      have HF : Hid (∀ W, Calls Try.prog 26 #[.string (s.extract k s.size)] W fun e w' => e = .returned (.tuple #[.int .i64 kd, .int .i64 nn]) ∧ Hid (Below W.heap.size W w')) := HF
      by_cases hz : nn = 0
      · have HBAD := Lib.hid (items_bad hkl (by rw [hff]; exact hz))
        have e0 : ((nn : Int) == 0) = true := eq_yes (c := 0) hz
        have hpl : pre.length < 70000 := by
          have h1 := HIL.out
          have h2 := congrArg List.length HI.out
          rw [List.length_append] at h2
          omega
        clear hz hff hkd hnn hkl
        gi_wp2_with (first
          | (refine ⟨trivial, ?_⟩; gi_at_call 26; refine (callsIn_wide.2 (HF.out _)).mono ?_; rintro e w1 ⟨rfl, hb1⟩; have hb01 := (boxed_below HB.out hb1.out).cell; have h9 : YieldAt Fence.wide (n - 1) Try.prog y #[.agg #[.int .i64 0, .string ⟨#[]⟩, .int .i64 k], .bool false] w1 _ := HY.out pre (⟨0, [], k⟩, false) w1 (HA.out pre wr w1 none HJ.out (grown_of_below hb1.out) (fun r e => by cases e)) hpl; obtain ⟨fn, tmps, assign, body, hy, hR⟩ := h9; have HR := Lib.hid hR; clear hR))
        refine HR.out.mono ?_
        clear HR hy
        rintro er W3 (⟨rfl, hJ5, hk5⟩ | ⟨rfl, hJx5⟩)
        · gi_wp2
          refine bodyPost_ret (results_none rfl _ _ _) rfl ?_
          exact ⟨⟨_, rfl⟩, .inl ⟨_, by rw [HI.out, HBAD.out], hJ5⟩⟩
        · gi_wp2
          refine bodyPost_ret (results_none rfl _ _ _) rfl ?_
          exact ⟨⟨_, rfl⟩, .inr ⟨_, by rw [HI.out, HBAD.out]; exact List.prefix_refl _, hJx5⟩⟩
      · have hfit := fst_fits hff
        rw [HL.out] at hfit
        have h2n := fst_two hff hz
        obtain ⟨q, hq⟩ : ∃ q, k + nn + skN false (l.drop (k + nn)) = q := ⟨_, rfl⟩
        have HMORE := Lib.hid (items_more hkl hff hz hq)
        have hql : q ≤ s.size := by
          have := skN_le false (l.drop (k + nn))
          rw [List.length_drop, HL.out] at this
          omega
        have HSQ := Lib.hid (HSK.out (k + nn) (by omega))
        rw [hq] at HSQ
        have HII := Lib.hid (fun W => HIN.out kd k nn W hfit (by omega) h2n)
        have e0 : ((nn : Int) == 0) = false := eq_no (c := 0) hz
        have hqk : k < q := by omega
        have hend : IntKind.i64.wrap ((k : Int) + nn) = ((k + nn : Nat) : Int) := by rw [IntKind.wrap_i64]; omega
        have hpl : pre.length < 70000 := by
          have h1 := HIL.out
          have h2 := congrArg List.length HI.out
          rw [List.length_append] at h2
          omega
        obtain ⟨T, hT⟩ : ∃ T, insT kd ((l.drop k).take nn) = T := ⟨_, rfl⟩
        rw [hT] at HMORE HII
        clear hz hff hkd hnn hkl hT h2n hq
        gi_wp2_with (first
          | (refine ⟨trivial, ?_⟩; gi_at_call 26; refine (callsIn_wide.2 (HF.out _)).mono ?_; rintro e w1 ⟨rfl, hb1⟩; have hb01 := (boxed_below HB.out hb1.out).cell)
          | (refine ⟨trivial, ?_⟩; gi_at_call 32; refine (callsIn_wide.2 (HII.out _)).mono ?_; rintro e w2 ⟨rfl, hb2⟩; obtain ⟨fn, tmps, assign, body, hy, hR⟩ := HY.out pre (⟨kd, T, k⟩, true) w2 (HA.out pre wr w2 none HJ.out (grown_of_below (hb1.out.trans (hb2.out.mono hb1.out.size))) (fun r e => by cases e)) hpl; dsimp only [wdV] at hy; have HR := Lib.hid hR; clear hR))
        refine HR.out.mono ?_
        clear HR hy
        have HB2 := Lib.hid (boxed_below HB.out (hb1.out.trans (hb2.out.mono hb1.out.size)))
        have HZ2 := Lib.hid (Nat.le_trans hb1.out.size hb2.out.size)
        clear hb0 hb01 hb1 hb2 HF HII HJ HB
        rintro er W3 (⟨rfl, hJ5, hk5⟩ | ⟨rfl, hJx5⟩)
        · have HB3 := Lib.hid (hk5.box HB2.out)
          have hb3 := HB3.out.cell
          have HZ3 := Lib.hid (Nat.le_trans HZ2.out hk5.1.size)
          have HJ5 := Lib.hid hJ5
          clear hk5 hJ5 HB2
          gi_wp2_with (refine ⟨trivial, ?_⟩; gi_at_call 31; refine (callsIn_wide.2 (HSQ.out _)).mono ?_; rintro e w5 ⟨rfl, e5⟩; subst w5)
          go_roundw
          case rel => exact ⟨q, _, rfl, hql, Lib.hid (by rw [HI.out, HMORE.out, List.append_assoc]; rfl), HB3, Lib.hid (Nat.le_trans HN0.out HZ3.out), Lib.hid (Nat.le_trans HSZ.out HZ3.out), HJ5⟩
          case measure => simp only [intOf]; omega
        · gi_wp2
          refine bodyPost_ret (results_none rfl _ _ _) rfl ?_
          exact ⟨⟨_, rfl⟩, .inr ⟨_, ⟨itemsOf (wds l q), by rw [HI.out, HMORE.out, List.append_assoc]; rfl⟩, hJx5⟩⟩
    · have hd : decide ((k : Int) < s.size) = false := decide_eq_false (by omega)
      have HEND := Lib.hid (items_end (l := l) (p := k) (by rw [HL.out]; exact hlt))
      gi_wp2
      go_end0
      exact ⟨⟨_, rfl⟩, .inl ⟨pre, by rw [HI.out, HEND.out, List.append_nil], HJ.out⟩⟩
theorem each_stops (n : Nat) (hn : 1 ≤ n) (Bs n₀ : Nat) (s : ByteArray) (l : List Nat) (hsl : bytesOf s = l) (hsz : s.size ≤ 65536) (w : World) (hb : Boxed w Bs 9 (.string s)) (hn0 : n₀ ≤ w.heap.size) :
    SeqStopsK Fence.wide n Try.prog 30 #[.pointer (some ⟨Bs, 0, none⟩)] (fun x : Item => #[wdV x.1, .bool x.2]) (KeepS n₀) (fun ys => ys = itemsOf (allW l)) (fun pre => pre <+: itemsOf (allW l)) 70000 w := fun y J Jx W hW hA _ hY h0 =>
  each1_in n hn y Bs n₀ s l hsl hsz J Jx hY W hA (boxed_below hb hW) (Nat.le_trans hn0 hW.size) h0
end Go.Proofs.Ytplgnbedcjanhaa
