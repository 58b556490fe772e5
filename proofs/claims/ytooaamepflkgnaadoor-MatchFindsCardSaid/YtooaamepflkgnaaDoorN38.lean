/- Texts that a proof rests on: The reference's Ends and Longest. | The reference's Longest, First and Cut. | The reference's Cut. | MatchFinds: the walk. -/
import Derived.Test.YtooaamepflkgnaaDoorN17
import Derived.Test.YtooaamepflkgnaaDoorN37
import Derived.Test.YtooaamepflkgnaaDoorN42
import Derived.Test.YtooaamepflkgnaaDoorN36
import Derived.Test.YtooaamepflkgnaaDoorN43
import Derived.Deep.RegionHeld3
import Derived.Deep.CutRange
set_option maxRecDepth 100000
namespace Go.Proofs.YtooaamepflkgnaaDoor
open Go.RowKit

/-- The places that a row has. -/
def placesOf (n : Nat) (g : Nat → Bool) : List Int := ((List.range n).filter g).map Int.ofNat
theorem placesOf_yes {n : Nat} {g : Nat → Bool} (h : g n = true) : placesOf (n + 1) g = placesOf n g ++ [(n : Int)] := by
  unfold placesOf
  rw [List.range_succ, List.filter_append, List.map_append]
  simp [h]
theorem placesOf_no {n : Nat} {g : Nat → Bool} (h : g n = false) : placesOf (n + 1) g = placesOf n g := by
  unfold placesOf
  rw [List.range_succ, List.filter_append, List.map_append]
  simp [h]
theorem placesOf_len (n : Nat) (g : Nat → Bool) : (placesOf n g).length ≤ n := by
  unfold placesOf
  rw [List.length_map]
  have := List.length_filter_le g (List.range n)
  simpa using this
theorem placesOf_nil {n : Nat} {g : Nat → Bool} (h : placesOf n g = []) : ∀ x, x < n → g x = false := by
  intro x hx
  unfold placesOf at h
  have h1 := List.map_eq_nil_iff.1 h
  cases e : g x with
  | false => rfl
  | true =>
    have : x ∈ (List.range n).filter g := List.mem_filter.2 ⟨by simpa using hx, e⟩
    rw [h1] at this; cases this
theorem placesOf_last : ∀ (n : Nat) (g : Nat → Bool) (l : List Int) (z : Int), placesOf n g = l ++ [z] → ∃ x : Nat, z = x ∧ x < n ∧ g x = true ∧ ∀ y, y < n → g y = true → y ≤ x
  | 0, g, l, z, h => by
    have := congrArg List.length h
    simp [placesOf] at this
  | n + 1, g, l, z, h => by
    cases e : g n with
    | true =>
      rw [placesOf_yes e] at h
      obtain ⟨_, h2⟩ := List.append_inj' h rfl
      cases h2
      exact ⟨n, rfl, by omega, e, fun y hy _ => by omega⟩
    | false =>
      rw [placesOf_no e] at h
      obtain ⟨x, h1, h2, h3, h4⟩ := placesOf_last n g l z h
      exact ⟨x, h1, by omega, h3, fun y hy hg => by
        by_cases e2 : y = n
        · subst e2; rw [e] at hg; cases hg
        · exact h4 y (by omega) hg⟩
theorem one_newsI {w : World} {vb : Nat} {x : Value} (hvb : w.heap[vb]? = some (.cells #[x] 3 (0, 0))) : ∀ j u, [x][j]? = some u → w.cell? ((⟨vb, 0, none⟩ : Addr).add j) = some u := by
  intro j u hj
  exact World.news_of_block hvb j u (by simpa using hj)
/-- A row of one's own behind an append to it. -/
theorem push_row {N B n g cap : Nat} {e : TypeId} {w0 w w7 w8 : World} {v : Value} {xs ys : List Value} (h : Below N w0 w) (hrow : w.ownsRow B e 1 v n xs) (hB : N ≤ B) (hN : N ≤ w.heap.size) (h7 : Below w.heap.size w w7) (hg : w7.grownBy w8 v.ownBlock)
    (_hr : w8.ownsRow B e 1 (.slice (some ⟨g, 0, none⟩) (n + 1) cap) (n + 1) ys) : Below N w0 w8 :=
  (h.trans (h7.mono hN)).grown hg (by have := h7.size; omega) (fun k hk => by have := (hrow.lt k hk).1; omega)
theorem push_blk {B b m n : Nat} {e : TypeId} {w w7 w8 : World} {v : Value} {xs : List Value} {f : Nat → Bool} (h : Blk w b m f) (hrow : w.ownsRow B e 1 v n xs) (hb : b < B) (h7 : Below w.heap.size w w7) (hg : w7.grownBy w8 v.ownBlock) : Blk w8 b m f := by
  have h1 := h.below h7
  have h9 := h1.lt
  unfold Blk at *
  rw [hg.block b h9 (fun e => by have := (hrow.lt b e.symm).1; omega)]
  exact h1
/-- What Ends gives. -/
def REnds (s : ByteArray) (p : Pat) (n o N : Nat) (w : World) (e : Ending) (w' : World) : Prop := ∃ v g, e = .returned v ∧ Hid (RdV w' v ((placesOf n g).map (Value.int .i64))) ∧ Hid (∀ x, x ≤ s.size → (g x = true ↔ p.M s o x)) ∧ Hid (Below N w w')
set_option linter.unusedSimpArgs false in
set_option maxHeartbeats 4000000 in
theorem rEnds_any (s : ByteArray) (n : Nat) (p : Pat) (hf : FromC s n p) (hn : s.size + 1 = n) (hsz : s.size ≤ 90) (ks : Value) (w : World) (o : Nat) (ho : o ≤ s.size) (hk : Kids w p.kids ks) :
    Calls Tryd.prog 34 #[(.agg #[.int .i64 p.op, .int .u64 (wd p.set 0), .int .u64 (wd p.set 1), .int .u64 (wd p.set 2), .int .u64 (wd p.set 3), .int .i64 p.lo, .int .i64 p.hi, ks]), .string s, .int .i64 o] w (REnds s p n o w.heap.size w) := by
  obtain ⟨a, cap, rfl⟩ := hk.len
  obtain ⟨i0, hi0, hz0, hz1, hz2⟩ := info_parts infoInt
  have HI := Lib.hid (And.intro hi0 (And.intro hz0 (And.intro hz1 hz2)))
  clear hi0 hz0 hz1 hz2
  obtain ⟨N, hN⟩ : ∃ N, w.heap.size = N := ⟨_, rfl⟩
  have hmk := make_bools (c := (s.size : Int) + 1) (n := n) (by omega) (by omega)
  have HK := Lib.hid (show ∀ wr, Below N w wr → Kids wr p.kids (.slice a p.kids.length cap) from fun wr hbr => hk.below (by rw [hN]; exact hbr))
  have HFR := Lib.hid hf
  have hs2 : ((w.alloc (.cells #[.int .i64 p.op, .int .u64 (wd p.set 0), .int .u64 (wd p.set 1), .int .u64 (wd p.set 2), .int .u64 (wd p.set 3), .int .i64 p.lo, .int .i64 p.hi, .slice a p.kids.length cap] 28)).alloc (.cells (Places n fun _ => false) 4)).heap.size = N + 2 := by simp [hN]
  have hb2 : Below N w ((w.alloc (.cells #[.int .i64 p.op, .int .u64 (wd p.set 0), .int .u64 (wd p.set 1), .int .u64 (wd p.set 2), .int .u64 (wd p.set 3), .int .i64 p.lo, .int .i64 p.hi, .slice a p.kids.length cap] 28)).alloc (.cells (Places n fun _ => false) 4)) := by rw [← hN]; exact below2 w _ _
  have hx2 : ((w.alloc (.cells #[.int .i64 p.op, .int .u64 (wd p.set 0), .int .u64 (wd p.set 1), .int .u64 (wd p.set 2), .int .u64 (wd p.set 3), .int .i64 p.lo, .int .i64 p.hi, .slice a p.kids.length cap] 28)).alloc (.cells (Places n fun _ => false) 4)).heap[N]? = some (.cells #[.int .i64 p.op, .int .u64 (wd p.set 0), .int .u64 (wd p.set 1), .int .u64 (wd p.set 2), .int .u64 (wd p.set 3), .int .i64 p.lo, .int .i64 p.hi, .slice a p.kids.length cap] 28 (0, 0)) := by
    rw [heap_alloc_old _ _ (by simp; omega), ← hN]; exact heap_alloc_new w _
  have hr2 : Blk ((w.alloc (.cells #[.int .i64 p.op, .int .u64 (wd p.set 0), .int .u64 (wd p.set 1), .int .u64 (wd p.set 2), .int .u64 (wd p.set 3), .int .i64 p.lo, .int .i64 p.hi, .slice a p.kids.length cap] 28)).alloc (.cells (Places n fun _ => false) 4)) (N + 1) n (fun _ => false) := by
    have := Blk.new (w.alloc (.cells #[.int .i64 p.op, .int .u64 (wd p.set 0), .int .u64 (wd p.set 1), .int .u64 (wd p.set 2), .int .u64 (wd p.set 3), .int .i64 p.lo, .int .i64 p.hi, .slice a p.kids.length cap] 28)) n (fun _ => false)
    rw [World.size_alloc, hN] at this
    exact this
  have d1 : decide ((o : Int) < 0) = false := by simp
  have d2 : decide ((o : Int) > s.size) = false := by simp; omega
  have d3 : decide ((s.size : Int) < o) = false := by simp; omega
  clear hk hf
  rw [hN]
  go_enter Tryd.func34, Tryd.ntmps34
  go_upto_region 4 with fail
  generalize hw2 : (w.alloc (.cells #[.int .i64 p.op, .int .u64 (wd p.set 0), .int .u64 (wd p.set 1), .int .u64 (wd p.set 2), .int .u64 (wd p.set 3), .int .i64 p.lo, .int .i64 p.hi, .slice a p.kids.length cap] 28)).alloc (.cells (Places n fun _ => false) 4) = w2 at *
  clear hw2 hmk d1 d2 d3
  have HB2 := Lib.hid hb2
  have HX2 := Lib.hid hx2
  have HR2 := Lib.hid hr2
  have HS2 := Lib.hid hs2
  have cl := hr2.cell (i := o) (by omega)
  have fl : w2.frozen? ⟨N + 1, o, none⟩ = false := hr2.frozen
  clear hb2 hx2 hr2
  go_upto_region 5 with fail
  generalize hw3 : w2.setCell ⟨N + 1, o, none⟩ (.bool true) = w3
  have hb23 : Below (N + 1) w2 w3 := by rw [← hw3]; exact (Below.refl _ _).setCell (p := ⟨N + 1, o, none⟩) (Nat.le_refl _) _
  have hs3 : w3.heap.size = N + 2 := by rw [← hw3]; simpa using HS2.out
  have HR3 : Hid (Blk w3 (N + 1) n (fun i => i == o)) := Lib.hid (by rw [← hw3]; exact HR2.out.set (by simp) (fun i _ hne => by simp [hne]))
  have HB3 := Lib.hid (HB2.out.trans (hb23.mono (Nat.le_succ N)))
  obtain ⟨c0, c1, c2, c3, c4, c5, c6, c7⟩ := box8 ((hb23.block N (Nat.lt_succ_self N)).trans HX2.out)
  have HCC := Lib.hid (HFR.out _ w3 (N + 1) _ (HK.out w3 HB3.out) HR3.out)
  clear hw3 hb23 cl fl HB2 HX2 HR2 HS2 hs2
  go_wp2_with (go_at_call 41; refine HCC.out.mono ?_; rintro e w5 ⟨r5, g5, rfl, HR5, HBL5, HG5, HBW5⟩)
  obtain ⟨B, hB⟩ : ∃ B, w5.heap.size = B := ⟨_, rfl⟩
  have hrB : r5 < B := by have := HBL5.out.lt; omega
  have hNB : N ≤ B := by have := HBW5.out.size; omega
  have HB5 := Lib.hid (HB3.out.trans (HBW5.out.mono (by omega)))
  have HGG := Lib.hid (fun x hx => go_one ho HG5.out x hx)
  have HROW0 : Hid (w5.ownsRow B 3 1 (.slice none 0 0) (placesOf 0 g5).length ((placesOf 0 g5).map (Value.int .i64))) := Lib.hid (World.ownsRow_nil _ _ _ _)
  have hB5 : B ≤ w5.heap.size := by omega
  clear c0 c1 c2 c3 c4 c5 c6 c7 HB3 HR3 HCC HFR HK HG5 HBW5 HR5
  go_loopw [9, 10] (fun v x wr => ∃ (k : Nat), x = .int .i64 k ∧ k ≤ n ∧ B ≤ wr.heap.size ∧ Hid (wr.ownsRow B 3 1 v (placesOf k g5).length ((placesOf k g5).map (Value.int .i64))) ∧ Hid (Blk wr r5 n g5) ∧ Hid (Below N w wr)) (fun _ x _ => n - (intOf x).toNat)
  case atStart => exact ⟨0, rfl, Nat.zero_le _, hB5, HROW0, HBL5, HB5⟩
  case round =>
    clear HROW0 HBL5 HB5 hB5
    obtain ⟨k, rfl, hk, hBr, HROW, HBL, HBR⟩ := hrel
    by_cases hlt : k < n
    · have hd : decide ((k : Int) < n) = true := by simpa using hlt
      have cg := HBL.out.cell hlt
      cases hgk : g5 k
      · have HNO := Lib.hid (placesOf_no hgk)
        rw [hgk] at cg
        clear hgk
        go_wp2
        go_roundw
        case rel => exact ⟨k + 1, num_succ k, by omega, hBr, by rw [HNO.out]; exact HROW, HBL, HBR⟩
        case measure => simp [intOf]; omega
      · have HYES := Lib.hid (placesOf_yes hgk)
        have hln := placesOf_len k g5
        rw [hgk] at cg
        clear hgk
        obtain ⟨ln, hlne⟩ : ∃ ln, (placesOf k g5).length = ln := ⟨_, rfl⟩
        rw [hlne] at hln HROW
        have HRA := Lib.hid (HROW.out.alloc (.cells #[.int .i64 k] 3))
        go_wp2_with (at_builtin; refine wpList_append_lies _ rfl _ _ 46 rfl B 3 i0 (.int .i64 0) 1 8 Tryd.underlying46 HI.out.1 HI.out.2.1 HI.out.2.2.1 HI.out.2.2.2 rfl (by decide) u9 ln ((placesOf k g5).map (Value.int .i64)) rfl HRA.out ⟨wr.heap.size, 0, none⟩ 1 1 [.int .i64 k] rfl rfl (one_newsI (heap_alloc_new wr _)) (by simp [Value.oneCell']) (by omega) (by unfold maxLen; omega) (by omega) (by simp; omega) (wr.heap.size + 1) (by simp) ?_; intro g cap2 w8 h2 h3 h4 h5; have HP1 := Lib.hid (push_row HBR.out HROW.out hNB (by omega) (below_one wr _) h3 h2); have HP2 := Lib.hid (push_blk HBL.out HROW.out hrB (below_one wr _) h3); have hsz8 := h3.size; have HP3 := Lib.hid h2; clear h2 h3 h4 h5)
        go_roundw
        case rel => exact ⟨k + 1, num_succ k, by omega, by simp at hsz8; omega, by
          rw [HYES.out]
          have := HP3.out
          simpa [hlne] using Lib.hid this, HP2, HP1⟩
        case measure => simp [intOf]; omega
    · obtain rfl : k = n := by omega
      have hd : decide ((k : Int) < k) = false := by simp
      have HRD := Lib.hid (rdv_row HROW.out (by simp))
      go_wp2
      exact bodyPost_ret (v := u9) (by simp [results, Tryd.results34, go_sem, *]) rfl ⟨u9, g5, rfl, HRD, HGG, HBR⟩
end Go.Proofs.YtooaamepflkgnaaDoor
set_option maxRecDepth 100000
namespace Go.Proofs.YtooaamepflkgnaaDoor
open Go.RowKit

theorem long_none {s : ByteArray} {p : Pat} {n o : Nat} {g : Nat → Bool} (hn : s.size + 1 = n) (h : ∀ x, x ≤ s.size → (g x = true ↔ p.M s o x)) (hl : placesOf n g = []) : LongR s p o 0 false :=
  .inr ⟨rfl, rfl, fun x h0 h1 hM => by
    have hm := M_mono s p o x hM h0 h1
    obtain ⟨k, hk, rfl⟩ := nat_of (n := s.size) (m := x) (by omega) hm.2
    have := (h k hk).2 hM
    rw [placesOf_nil hl k (by omega)] at this
    cases this⟩
theorem long_some {s : ByteArray} {p : Pat} {n o : Nat} {g : Nat → Bool} (hn : s.size + 1 = n) (ho : o ≤ s.size) (h : ∀ x, x ≤ s.size → (g x = true ↔ p.M s o x)) {l : List Int} {z : Int} (hl : placesOf n g = l ++ [z]) : LongR s p o z true := by
  obtain ⟨x, rfl, hx, hg, hlast⟩ := placesOf_last n g l z hl
  refine .inl ⟨rfl, by omega, by omega, (h x (by omega)).1 hg, fun y hM => ?_⟩
  have hm := M_mono s p o y hM (by omega) (by omega)
  obtain ⟨k, hk, rfl⟩ := nat_of (n := s.size) (m := y) (by omega) hm.2
  have := hlast k (by omega) ((h k hk).2 hM)
  omega
/-- What Longest gives. -/
def RLong (s : ByteArray) (p : Pat) (o N : Nat) (w : World) (e : Ending) (w' : World) : Prop := ∃ z ok, e = .returned (.tuple #[.int .i64 z, .bool ok]) ∧ Hid (LongR s p o z ok) ∧ Hid (Below N w w')
set_option maxHeartbeats 2000000 in
theorem rLongest_any (s : ByteArray) (n : Nat) (p : Pat) (hf : FromC s n p) (hn : s.size + 1 = n) (hsz : s.size ≤ 90) (ks : Value) (w : World) (o : Nat) (ho : o ≤ s.size) (hk : Kids w p.kids ks) :
    Calls Tryd.prog 28 #[(.agg #[.int .i64 p.op, .int .u64 (wd p.set 0), .int .u64 (wd p.set 1), .int .u64 (wd p.set 2), .int .u64 (wd p.set 3), .int .i64 p.lo, .int .i64 p.hi, ks]), .string s, .int .i64 o] w (RLong s p o w.heap.size w) := by
  obtain ⟨a, cap, rfl⟩ := hk.len
  obtain ⟨N, hN⟩ : ∃ N, w.heap.size = N := ⟨_, rfl⟩
  have hb1 := below_one w (.cells #[.int .i64 p.op, .int .u64 (wd p.set 0), .int .u64 (wd p.set 1), .int .u64 (wd p.set 2), .int .u64 (wd p.set 3), .int .i64 p.lo, .int .i64 p.hi, .slice a p.kids.length cap] 28)
  have HB1 := Lib.hid hb1
  have HCC := Lib.hid (rEnds_any s n p hf hn hsz (.slice a p.kids.length cap) _ o ho (hk.below hb1))
  clear hb1 hk hf
  rw [hN]
  go_enter Tryd.func28, Tryd.ntmps28
  go_upto_region 2 with (go_at_call 34; (with_reducible refine HCC.out.mono ?_); rintro e w5 ⟨v5, g5, rfl, HRD, HG5, HBW5⟩)
  have HBB : Hid (Below N w w5) := Lib.hid (by rw [← hN]; exact HB1.out.trans (HBW5.out.mono (by simp)))
  rcases List.eq_nil_or_concat (placesOf n g5) with hl | ⟨l, z, hl⟩
  · have HL := Lib.hid (long_none hn HG5.out hl)
    rw [hl] at HRD
    obtain ⟨a5, c5, rfl⟩ := HRD.out.len
    go_wp2
    exact bodyPost_ret (v := .tuple #[.int .i64 0, .bool false]) (by simp [results, Tryd.results28, go_sem, *]) rfl ⟨0, false, rfl, HL, HBB⟩
  · rw [List.concat_eq_append] at hl
    have HL := Lib.hid (long_some hn ho HG5.out hl)
    rw [hl] at HRD
    have hlen : ((l ++ [z]).map (Value.int .i64)).length = l.length + 1 := by simp
    obtain ⟨b5, o5, c5, e5, r5⟩ := HRD.out.at (i := l.length) (by simp)
    rw [hlen] at e5
    subst e5
    have r6 : w5.cell? ⟨b5, o5 + l.length, none⟩ = some (.int .i64 z) := by rw [r5]; simp
    have d1 : (((l.length + 1 : Nat) : Int) == 0) = false := by rw [beq_eq_false_iff_ne]; omega
    have hll : l.length < 1000 := by
      have := placesOf_len n g5
      rw [hl] at this
      simp at this
      omega
    clear r5 hlen hl HRD
    generalize l.length = ln at *
    go_wp2
    exact bodyPost_ret (v := .tuple #[.int .i64 z, .bool true]) (by simp [results, Tryd.results28, go_sem, *]) rfl ⟨z, true, rfl, HL, HBB⟩
set_option maxHeartbeats 2000000 in
theorem rFirst_any (s : ByteArray) (n : Nat) (p : Pat) (hf : FromC s n p) (hn : s.size + 1 = n) (hsz : s.size ≤ 90) (ks : Value) (w : World) (i : Int) (hk : Kids w p.kids ks) :
    Calls Tryd.prog 10 #[(.agg #[.int .i64 p.op, .int .u64 (wd p.set 0), .int .u64 (wd p.set 1), .int .u64 (wd p.set 2), .int .u64 (wd p.set 3), .int .i64 p.lo, .int .i64 p.hi, ks]), .string s, .int .i64 i] w (FirstP s p i w) := by
  obtain ⟨a, cap, rfl⟩ := hk.len
  obtain ⟨N, hN⟩ : ∃ N, w.heap.size = N := ⟨_, rfl⟩
  obtain ⟨w1, hw1⟩ : ∃ w1, w1 = w.alloc (.cells #[.int .i64 p.op, .int .u64 (wd p.set 0), .int .u64 (wd p.set 1), .int .u64 (wd p.set 2), .int .u64 (wd p.set 3), .int .i64 p.lo, .int .i64 p.hi, .slice a p.kids.length cap] 28) := ⟨_, rfl⟩
  have HB1 : Hid (Below w.heap.size w w1) := Lib.hid (by rw [hw1]; exact below_one w _)
  have HX1 : Hid (w1.heap[N]? = some (.cells #[.int .i64 p.op, .int .u64 (wd p.set 0), .int .u64 (wd p.set 1), .int .u64 (wd p.set 2), .int .u64 (wd p.set 3), .int .i64 p.lo, .int .i64 p.hi, .slice a p.kids.length cap] 28 (0, 0))) := Lib.hid (by rw [hw1, ← hN]; exact heap_alloc_new w _)
  have hs1 : w1.heap.size = N + 1 := by rw [hw1]; simp [hN]
  have HK1 : Hid (Kids w1 p.kids (.slice a p.kids.length cap)) := Lib.hid (hk.below HB1.out)
  have HLG := Lib.hid (fun wr (hbr : Below w1.heap.size w1 wr) o ho => rLongest_any s n p hf hn hsz (.slice a p.kids.length cap) wr o ho (HK1.out.below hbr))
  obtain ⟨i0, hi0⟩ : ∃ i0, max i 0 = i0 := ⟨_, rfl⟩
  have hge : 0 ≤ i0 := by omega
  have HI := Lib.hid hi0
  have HW := Lib.hid hw1
  clear hk hf hw1
  go_enter Tryd.func10, Tryd.ntmps10
  go_wp2
  rw [← HW.out]
  go_loopw [9] (fun x wr => ∃ c : Int, x = .int .i64 c ∧ i0 ≤ c ∧ Hid (Below w1.heap.size w1 wr) ∧ Hid (∀ j, i0 ≤ j → j < c → ∀ x, ¬ p.M s j x)) (fun x _ => (s.size + 1 - intOf x).toNat)
  case atStart => exact ⟨i0, rfl, Int.le_refl _, Lib.hid (Below.refl _ _), Lib.hid fun j h1 h2 => by omega⟩
  case round =>
    obtain ⟨c, rfl, hc, HBR, HNO⟩ := hrel
    obtain ⟨c0, c1, c2, c3, c4, c5, c6, c7⟩ := box8 ((HBR.out.block N (by omega)).trans HX1.out)
    have HBT : Hid (Below w.heap.size w wr) := Lib.hid (HB1.out.trans (HBR.out.mono (by omega)))
    by_cases hcl : c ≤ s.size
    · obtain ⟨cn, rfl⟩ : ∃ cn : Nat, c = cn := ⟨c.toNat, by omega⟩
      have hd : decide ((cn : Int) ≤ s.size) = true := by simpa using hcl
      have HL := Lib.hid (HLG.out wr HBR.out cn (by omega))
      clear hi0
      go_wp2_with (go_at_call 28; (with_reducible refine HL.out.mono ?_); rintro e w5 ⟨z, ok, rfl, HLR, HB5⟩; rcases ok with _ | _)
      · go_roundw
        case rel => exact ⟨(cn : Int) + 1, rfl, by omega, Lib.hid (HBR.out.trans (HB5.out.mono HBR.out.size)), Lib.hid fun j h1 h2 => by
          by_cases h3 : j < cn
          · exact HNO.out j h1 h3
          · obtain rfl : j = cn := by omega
            exact fun x => HLR.out.none.2 x (by omega) hcl⟩
        case measure => simp [intOf]; omega
      · exact bodyPost_ret (v := .tuple #[.int .i64 cn, .int .i64 z, .bool true]) (by simp [results, Tryd.results10, go_sem, *]) rfl ⟨cn, z, true, rfl, .inl ⟨rfl, by rw [HI.out]; exact hc, hcl, HLR.out, by rw [HI.out]; exact HNO.out⟩, HBT.out.trans (HB5.out.mono HBT.out.size)⟩
    · have hd : decide (c ≤ s.size) = false := by simpa using hcl
      clear hi0
      go_wp2
      exact bodyPost_ret (v := .tuple #[.int .i64 0, .int .i64 0, .bool false]) (by simp [results, Tryd.results10, go_sem, *]) rfl ⟨0, 0, false, rfl, .inr ⟨rfl, rfl, rfl, by rw [HI.out]; exact fun j h1 h2 => HNO.out j h1 (by omega)⟩, HBT.out⟩
end Go.Proofs.YtooaamepflkgnaaDoor
set_option maxRecDepth 100000
namespace Go.Proofs.YtooaamepflkgnaaDoor
open Go.RowKit

/-- One step of the reference's cut. -/
theorem cut_step_no (s : ByteArray) (L : Int → Int × Bool) {i d : Nat} (hi : i < s.size) (hL : ¬ (d ≤ i ∧ (L i).2 = true ∧ (i : Int) < (L i).1)) : cutS s L (s.size - i) i d = cutS s L (s.size - (i + 1)) (i + 1) d := by
  have e : s.size - i = (s.size - (i + 1)) + 1 := by omega
  rw [e, cutS, if_neg hL]
theorem cut_step_yes (s : ByteArray) (L : Int → Int × Bool) {i d z : Nat} (hi : i < s.size) (hdi : d ≤ i) (hL : L i = ((z : Int), true)) (hz : i < z) : cutS s L (s.size - i) i d = s.extract d i :: cutS s L (s.size - (i + 1)) (i + 1) z := by
  have e : s.size - i = (s.size - (i + 1)) + 1 := by omega
  rw [e, cutS, hL, if_pos ⟨hdi, rfl, by simp only; omega⟩]
  simp only [Int.toNat_natCast]
/-- An own row stays while blocks ahead of a number stay. -/
theorem row_below {w w' : World} {base n : Nat} {e : TypeId} {v : Value} {l : List Value} (h : w.ownsRow base e 1 v n l) (hb : Below w.heap.size w w') : w'.ownsRow base e 1 v n l :=
  row_out h (Out.below (X := fun _ => False) hb) (fun _ _ h => h.elim)
set_option linter.unusedSimpArgs false in
set_option maxHeartbeats 4000000 in
theorem rCut_any (s : ByteArray) (n : Nat) (p : Pat) (hf : FromC s n p) (hn : s.size + 1 = n) (hsz : s.size ≤ 90) (ks : Value) (w : World) (hk : Kids w p.kids ks) :
    Calls Tryd.prog 13 #[(.agg #[.int .i64 p.op, .int .u64 (wd p.set 0), .int .u64 (wd p.set 1), .int .u64 (wd p.set 2), .int .u64 (wd p.set 3), .int .i64 p.lo, .int .i64 p.hi, ks]), .string s] w (CutP s p w) := by
  obtain ⟨a, cap, rfl⟩ := hk.len
  obtain ⟨i0, hi0, hz0, hz1, hz2⟩ := info_parts infoStr
  have HI := Lib.hid (And.intro hi0 (And.intro hz0 (And.intro hz1 hz2)))
  clear hi0 hz0 hz1 hz2
  obtain ⟨N, hN⟩ : ∃ N, w.heap.size = N := ⟨_, rfl⟩
  obtain ⟨w1, hw1⟩ : ∃ w1, w1 = w.alloc (.cells #[.int .i64 p.op, .int .u64 (wd p.set 0), .int .u64 (wd p.set 1), .int .u64 (wd p.set 2), .int .u64 (wd p.set 3), .int .i64 p.lo, .int .i64 p.hi, .slice a p.kids.length cap] 28) := ⟨_, rfl⟩
  have HB1 : Hid (Below w.heap.size w w1) := Lib.hid (by rw [hw1]; exact below_one w _)
  have HX1 : Hid (w1.heap[N]? = some (.cells #[.int .i64 p.op, .int .u64 (wd p.set 0), .int .u64 (wd p.set 1), .int .u64 (wd p.set 2), .int .u64 (wd p.set 3), .int .i64 p.lo, .int .i64 p.hi, .slice a p.kids.length cap] 28 (0, 0))) := Lib.hid (by rw [hw1, ← hN]; exact heap_alloc_new w _)
  have hs1 : w1.heap.size = N + 1 := by rw [hw1]; simp [hN]
  have HK1 : Hid (Kids w1 p.kids (.slice a p.kids.length cap)) := Lib.hid (hk.below HB1.out)
  have HLG := Lib.hid (fun wr (hbr : Below (N + 1) w1 wr) o ho => rLongest_any s n p hf hn hsz (.slice a p.kids.length cap) wr o ho (HK1.out.below (by rw [hs1]; exact hbr)))
  have HW := Lib.hid hw1
  clear hk hf hw1
  go_enter Tryd.func13, Tryd.ntmps13
  go_wp2
  rw [← HW.out]
  go_loopw [5, 6, 7] (fun v x y wr => ∃ (d i : Nat) (l : List ByteArray), x = .int .i64 d ∧ y = .int .i64 i ∧ d ≤ s.size ∧ i ≤ s.size ∧ l.length ≤ i ∧ N + 1 ≤ wr.heap.size ∧ Hid (wr.ownsRow (N + 1) 9 1 v l.length (l.map Value.string)) ∧ Hid (Below (N + 1) w1 wr) ∧ Hid (l ++ cutS s (lg s p) (s.size - i) i d = cutS s (lg s p) s.size 0 0)) (fun _ _ y _ => s.size - (intOf y).toNat)
  case atStart => exact ⟨0, 0, [], rfl, rfl, Nat.zero_le _, Nat.zero_le _, Nat.zero_le _, by omega, Lib.hid (World.ownsRow_nil _ _ _ _), Lib.hid (Below.refl _ _), Lib.hid rfl⟩
  case round =>
    obtain ⟨d, i, l, rfl, rfl, hd, hi, hll, hNr, HROW, HBR, HT⟩ := hrel
    obtain ⟨c0, c1, c2, c3, c4, c5, c6, c7⟩ := box8 ((HBR.out.block N (by omega)).trans HX1.out)
    by_cases hil : i < s.size
    · have hdd : decide ((i : Int) < s.size) = true := by simpa using hil
      have HL := Lib.hid (HLG.out wr HBR.out i hi)
      have HIL := Lib.hid hil
      have HM : Hid (∀ z : Int, LongR s p i z true → ∃ zn : Nat, z = zn ∧ i ≤ zn ∧ zn ≤ s.size) := Lib.hid fun z h => by
        obtain ⟨h0, h1, h2, _⟩ := h.some
        have := M_mono s p i z h2 h0 h1
        exact ⟨z.toNat, by omega, by omega, by omega⟩
      go_wp2_with (first
        | (go_at_call 28; (with_reducible refine HL.out.mono ?_); rintro e w5 ⟨z, ok, rfl, HLR, HB5⟩; have hs5 := HB5.out.size; have HRW := Lib.hid (row_below HROW.out HB5.out); have HRA := Lib.hid (HRW.out.alloc (.cells #[.string (s.extract d i)] 9)); have HBR5 := Lib.hid (HBR.out.trans (HB5.out.mono hNr)); have HLG5 := Lib.hid (lg_eq HLR.out); rcases ok with _ | _; rotate_left; obtain ⟨zn, hzn, hz1, hz2⟩ := HM.out z HLR.out; obtain rfl := hzn; rcases Nat.lt_or_ge i d with hz3 | hz3; rotate_left; rcases Nat.eq_or_lt_of_le hz1 with hz4 | hz4)
        | (at_builtin; refine wpList_append_lies _ rfl _ _ 33 rfl (N + 1) 9 i0 (.string ⟨#[]⟩) 1 16 Tryd.underlying33 HI.out.1 HI.out.2.1 HI.out.2.2.1 HI.out.2.2.2 rfl (by decide) u5 l.length (l.map Value.string) rfl HRA.out ⟨w5.heap.size, 0, none⟩ 1 1 [.string (s.extract d i)] rfl rfl (one_newsS (heap_alloc_new w5 _)) (by simp [Value.oneCell']) (by omega) (by unfold maxLen; omega) (by omega) (by simp; omega) (w5.heap.size + 1) (by simp) ?_; intro g cap2 w8 h2 h3 h4 h5; have HP1 := Lib.hid (push_row HBR5.out HRW.out (Nat.le_refl _) (by omega) (below_one w5 _) h3 h2); have hsz8 := h3.size; have HP3 := Lib.hid h2; clear h2 h3 h4 h5))
      · go_roundw
        case rel => exact ⟨d, i + 1, l, rfl, by simp [hz4], hd, by omega, by omega, by omega, HRW, HBR5, Lib.hid (by
          rw [← HT.out, cut_step_no s (lg s p) (i := i) (d := d) HIL.out (by rw [HLG5.out]; simp; omega)])⟩
        case measure => simp [intOf]; omega
      · go_roundw
        case rel => exact ⟨zn, i + 1, l ++ [s.extract d i], rfl, num_succ i, hz2, by omega, by simp; omega, by simp at hsz8; omega, by simpa using HP3, HP1, Lib.hid (by
          rw [← HT.out, cut_step_yes s (lg s p) (i := i) (d := d) HIL.out hz3 HLG5.out hz4]; simp)⟩
        case measure => simp [intOf]; omega
      · go_roundw
        case rel => exact ⟨d, i + 1, l, rfl, num_succ i, hd, by omega, by omega, by omega, HRW, HBR5, Lib.hid (by
          rw [← HT.out, cut_step_no s (lg s p) (i := i) (d := d) HIL.out (by rw [HLG5.out]; simp)])⟩
        case measure => simp [intOf]; omega
      · go_roundw
        case rel => exact ⟨d, i + 1, l, rfl, num_succ i, hd, by omega, by omega, by omega, HRW, HBR5, Lib.hid (by
          rw [← HT.out, cut_step_no s (lg s p) (i := i) (d := d) HIL.out (by first | omega | (rw [HLG5.out]; simp))])⟩
        case measure => simp [intOf]; omega
      · go_roundw
        case rel => exact ⟨d, i + 1, l, rfl, num_succ i, hd, by omega, by omega, by omega, HRW, HBR5, Lib.hid (by
          rw [← HT.out, cut_step_no s (lg s p) (i := i) (d := d) HIL.out (by first | omega | (rw [HLG5.out]; simp))])⟩
        case measure => simp [intOf]; omega
    · obtain rfl : i = s.size := by omega
      have hdd : decide ((s.size : Int) < s.size) = false := by simp
      have HRA := Lib.hid (HROW.out.alloc (.cells #[.string (s.extract d s.size)] 9))
      go_wp2_with (at_builtin; refine wpList_append_lies _ rfl _ _ 33 rfl (N + 1) 9 i0 (.string ⟨#[]⟩) 1 16 Tryd.underlying33 HI.out.1 HI.out.2.1 HI.out.2.2.1 HI.out.2.2.2 rfl (by decide) u5 l.length (l.map Value.string) rfl HRA.out ⟨wr.heap.size, 0, none⟩ 1 1 [.string (s.extract d s.size)] rfl rfl (one_newsS (heap_alloc_new wr _)) (by simp [Value.oneCell']) (by omega) (by unfold maxLen; omega) (by omega) (by simp; omega) (wr.heap.size + 1) (by simp) ?_; intro g cap2 w8 h2 h3 h4 h5; have HP1 := Lib.hid (push_row HBR.out HROW.out (Nat.le_refl _) (by omega) (below_one wr _) h3 h2); have hsz8 := h3.size; have HP3 := Lib.hid h2; clear h2 h3 h4 h5)
      have hfin : l ++ [s.extract d s.size] = cutS s (lg s p) s.size 0 0 := by
        rw [← HT.out, Nat.sub_self]
        rfl
      have hRd : RdV w8 (.slice (some ⟨g, 0, none⟩) (l.length + 1) cap2) ((cutS s (lg s p) s.size 0 0).map Value.string) := by
        rw [← hfin]
        have := HP3.out
        exact rdv_rowS (n := l.length + 1) (by simpa using this) (by simp)
      exact bodyPost_ret (v := .slice (some ⟨g, 0, none⟩) (l.length + 1) cap2) (by simp [results, Tryd.results13, go_sem, *]) rfl ⟨_, rfl, hRd, HB1.out.trans (HP1.out.mono (by omega))⟩
end Go.Proofs.YtooaamepflkgnaaDoor
set_option maxRecDepth 100000
namespace Go.Proofs.YtooaamepflkgnaaDoor
open Go.RowKit

theorem FirstR.same {s : ByteArray} {p : Pat} {i c c' z z' : Int} {ok ok' : Bool} (h : FirstR s p i c z ok) (h' : FirstR s p i c' z' ok') : c = c' ∧ z = z' ∧ ok = ok' := by
  rcases h with ⟨rfl, h1, h2, h3, h4⟩ | ⟨rfl, rfl, rfl, h4⟩ <;> rcases h' with ⟨rfl, g1, g2, g3, g4⟩ | ⟨rfl, rfl, rfl, g4⟩
  · have e : c = c' := by
      rcases Int.lt_trichotomy c c' with hlt | he | hgt
      · exact absurd h3.some.2.2.1 (g4 c h1 hlt z)
      · exact he
      · exact absurd g3.some.2.2.1 (h4 c' g1 hgt z')
    subst e
    exact ⟨rfl, (h3.same g3).1, rfl⟩
  · exact absurd h3.some.2.2.1 (g4 c h1 h2 z)
  · exact absurd g3.some.2.2.1 (h4 c' g1 g2 z')
  · exact ⟨rfl, rfl, rfl⟩
theorem cutS_len (s : ByteArray) (L : Int → Int × Bool) : ∀ (k i d : Nat), (cutS s L k i d).length ≤ k + 1
  | 0, i, d => by simp [cutS]
  | k + 1, i, d => by
    rw [cutS]
    split
    · have := cutS_len s L k (i + 1) (L i).1.toNat
      simp only [List.length_cons]; omega
    · have := cutS_len s L k (i + 1) d
      omega
theorem texts_w (v u : Value) (l : List ByteArray) (w : World) (hl : l.length < 10000) (hv : RdV w v (l.map Value.string)) (hu : RdV w u (l.map Value.string)) :
    Calls Tryd.prog 11 #[v, u] w fun e w' => e = .returned (.bool true) ∧ Below w.heap.size w w' := by
  refine (rsameT_any v u l l w hl hl hv hu).mono ?_
  rintro e w' ⟨rfl, hb⟩
  exact ⟨by simp, hb⟩
theorem rd_next {w w' : World} {v : Value} {l : List Value} (h : Hid (RdV w v l)) (hb : Below w.heap.size w w') : Hid (RdV w' v l) := Lib.hid (h.out.below hb)
theorem make_good (code : ByteArray) (w : World) (hlen : code.size ≤ 12) : Calls Tryd.prog 8 #[.string code] w fun e w' => ∃ (q : Pat) (a : Option Addr) (n : Nat), e = .returned (.agg #[.int .i64 q.op, .int .u64 (wd q.set 0), .int .u64 (wd q.set 1), .int .u64 (wd q.set 2), .int .u64 (wd q.set 3), .int .i64 q.lo, .int .i64 q.hi, .slice a q.kids.length n]) ∧ Hid (q.num = true ∧ q.size ≤ 13 ∧ q.ok = true) ∧ Hid (Kids w' q.kids (.slice a q.kids.length n)) ∧ Hid (Below w.heap.size w w') := by
  refine (make_any code w (by omega)).mono ?_
  rintro e w' ⟨q, ks, rfl, hk, hs, ⟨ho, hn⟩, hb⟩
  obtain ⟨a, n, rfl⟩ := hk.len
  exact ⟨q, a, n, rfl, ⟨hn, by omega, ho⟩, hk, hb⟩
set_option linter.unusedSimpArgs false in
set_option maxHeartbeats 8000000 in
theorem finds_law (a s : ByteArray) (i : Int) (w : World) : Calls Tryd.prog 3 #[.string a, .string s, .int .i64 i] w fun e w' => e = .returned (.bool true) ∧ Below w.heap.size w w' := by
  have HAW := Lib.hid (awake_any w)
  by_cases ha : a.size > 10
  · have hd : decide ((a.size : Int) > 10) = true := by simp; omega
    have hd2 : decide ((10 : Int) < a.size) = true := by simp; omega
    go_enter Tryd.func3, Tryd.ntmps3
    go_wp2_with (go_at_call 7; (with_reducible refine HAW.out.mono ?_); rintro e w2 ⟨rfl, hb2⟩)
    go_ret
    exact ⟨rfl, hb2⟩
  have hda : decide ((a.size : Int) > 10) = false := by simp; omega
  have hda2 : decide ((10 : Int) < a.size) = false := by simp; omega
  by_cases hs : s.size > 14
  · have hd : decide ((s.size : Int) > 14) = true := by simp; omega
    have hd2 : decide ((14 : Int) < s.size) = true := by simp; omega
    go_enter Tryd.func3, Tryd.ntmps3
    go_wp2_with (go_at_call 7; (with_reducible refine HAW.out.mono ?_); rintro e w2 ⟨rfl, hb2⟩)
    go_ret
    exact ⟨rfl, hb2⟩
  have hds : decide ((s.size : Int) > 14) = false := by simp; omega
  have hds2 : decide ((14 : Int) < s.size) = false := by simp; omega
  have hs90 : s.size ≤ 90 := by omega
  go_enter Tryd.func3, Tryd.ntmps3
  go_upto_region 6 with (go_at_call 7; (with_reducible refine HAW.out.mono ?_); rintro e w2 ⟨rfl, hb2⟩)
  have HB2 := Lib.hid hb2
  have HMA := Lib.hid (make_good a w2 (by omega))
  clear hb2 hda hda2 hds hds2
  go_upto_region 7 with (go_at_call 8; (with_reducible refine HMA.out.mono ?_); rintro e w3 ⟨p, ap, np, rfl, HP, HKP, HB3⟩)
  obtain ⟨nx, hnx⟩ : ∃ nx, w3.heap.size = nx := ⟨_, rfl⟩
  obtain ⟨w4, hw4⟩ : ∃ w4, w3.alloc (.cells #[.int .i64 p.op, .int .u64 (wd p.set 0), .int .u64 (wd p.set 1), .int .u64 (wd p.set 2), .int .u64 (wd p.set 3), .int .i64 p.lo, .int .i64 p.hi, .slice ap p.kids.length np] 28) = w4 := ⟨_, rfl⟩
  have HX4 : Hid (w4.heap[nx]? = some (.cells #[.int .i64 p.op, .int .u64 (wd p.set 0), .int .u64 (wd p.set 1), .int .u64 (wd p.set 2), .int .u64 (wd p.set 3), .int .i64 p.lo, .int .i64 p.hi, .slice ap p.kids.length np] 28 (0, 0))) := Lib.hid (by rw [← hw4, ← hnx]; exact heap_alloc_new w3 _)
  have HB34 : Hid (Below w3.heap.size w3 w4) := Lib.hid (by rw [← hw4]; exact below_one w3 _)
  have HK4 : Hid (Kids w4 p.kids (.slice ap p.kids.length np)) := Lib.hid (HKP.out.below HB34.out)
  have HB4 : Hid (Below w.heap.size w w4) := Lib.hid (by
    have h1 := HB2.out.trans (HB3.out.mono HB2.out.size)
    exact h1.trans (HB34.out.mono h1.size))
  have HF : Hid (Fine s p) := Lib.hid ⟨hs90, HP.out.1, by have := HP.out.2.1; omega⟩
  have HFR : Hid (FromC s (s.size + 1) p) := Lib.hid (from_any s _ rfl hs90 p (by have := HP.out.2.1; omega) HP.out.1 HP.out.2.2)
  rw [hw4, hnx]
  clear hw4 hnx HB34 HKP HB3 HMA HAW
  have hnx4 : nx < w4.heap.size := lt_of_block HX4.out
  obtain ⟨x0, x1, x2, x3, x4, x5, x6, x7⟩ := box8 HX4.out
  have HC1 := Lib.hid (First_any s p (.slice ap p.kids.length np) i w4 HF.out HK4.out)
  go_upto_region 8 with (go_at_call 9; (with_reducible refine HC1.out.mono ?_); rintro e w5 ⟨c1, z1, ok1, rfl, hf1, hb5⟩)
  have HB5 := Lib.hid hb5
  have HF1 := Lib.hid hf1
  have hx5 := (hb5.block nx hnx4).trans HX4.out
  have HC2 := Lib.hid (rFirst_any s (s.size + 1) p HFR.out rfl hs90 (.slice ap p.kids.length np) w5 i (HK4.out.below hb5))
  clear hb5 hf1 x0 x1 x2 x3 x4 x5 x6 x7 HC1
  obtain ⟨x0, x1, x2, x3, x4, x5, x6, x7⟩ := box8 hx5
  have HX5 := Lib.hid hx5
  clear hx5
  go_upto_region 9 with (go_at_call 10; (with_reducible refine HC2.out.mono ?_); rintro e w6 ⟨c2, z2, ok2, rfl, hf2, hb6⟩)
  obtain ⟨rfl, rfl, rfl⟩ := HF1.out.same hf2
  have hnx5 : nx < w5.heap.size := lt_of_block HX5.out
  have hx6 : Box w6 nx #[.int .i64 p.op, .int .u64 (wd p.set 0), .int .u64 (wd p.set 1), .int .u64 (wd p.set 2), .int .u64 (wd p.set 3), .int .i64 p.lo, .int .i64 p.hi, .slice ap p.kids.length np] := (hb6.block nx hnx5).trans HX5.out
  have HX := Lib.hid hx6
  have hlx := hx6.lt
  have HB46 : Hid (Below w4.heap.size w4 w6) := Lib.hid (HB5.out.trans (hb6.mono HB5.out.size))
  have HB6 : Hid (Below w.heap.size w w6) := Lib.hid (HB4.out.trans (HB46.out.mono HB4.out.size))
  have HK6 : Hid (Kids w6 p.kids (.slice ap p.kids.length np)) := Lib.hid (HK4.out.below HB46.out)
  obtain ⟨L, hL⟩ : ∃ L, (cutS s (lg s p) s.size 0 0).map Value.string = L := ⟨_, rfl⟩
  have C1 : Hid (∀ W, Below w6.heap.size w6 W → Calls Tryd.prog 12 #[(.agg #[.int .i64 p.op, .int .u64 (wd p.set 0), .int .u64 (wd p.set 1), .int .u64 (wd p.set 2), .int .u64 (wd p.set 3), .int .i64 p.lo, .int .i64 p.hi, .slice ap p.kids.length np]), .string s] W fun e w' => ∃ v, e = .returned v ∧ Hid (RdV w' v L) ∧ Below W.heap.size W w') := Lib.hid fun W hb => by
    rw [← hL]; exact Cut_any s p _ W HF.out (HK6.out.below hb)
  have C2 : Hid (∀ W, Below w6.heap.size w6 W → Calls Tryd.prog 13 #[(.agg #[.int .i64 p.op, .int .u64 (wd p.set 0), .int .u64 (wd p.set 1), .int .u64 (wd p.set 2), .int .u64 (wd p.set 3), .int .i64 p.lo, .int .i64 p.hi, .slice ap p.kids.length np]), .string s] W fun e w' => ∃ v, e = .returned v ∧ Hid (RdV w' v L) ∧ Below W.heap.size W w') := Lib.hid fun W hb => by
    rw [← hL]; exact rCut_any s _ p HFR.out rfl hs90 _ W (HK6.out.below hb)
  have C3 : Hid (∀ W v u, Hid (RdV W v L) → Hid (RdV W u L) → Calls Tryd.prog 11 #[v, u] W fun e w' => e = .returned (.bool true) ∧ Below W.heap.size W w') := Lib.hid fun W v u hv hu => by
    rw [← hL] at hv hu
    exact texts_w v u _ W (by have := cutS_len s (lg s p) s.size 0 0; omega) hv.out hu.out
  clear hL hf2 hb6 HF1 HB5 HX5 HX4 HK4 HC2 HF HFR x0 x1 x2 x3 x4 x5 x6 x7 hx6 HB46 HP HB4 HK6
  have bz : (z1 == z1) = true := beq_self_eq_true z1
  have bc : (c1 == c1) = true := beq_self_eq_true c1
  rcases ok1 with _ | _
  all_goals
    go_region_held3 (fun W => W.cell? ⟨nx, 0, none⟩ = some (.int .i64 p.op) ∧ W.cell? ⟨nx, 1, none⟩ = some (.int .u64 (wd p.set 0)) ∧ W.cell? ⟨nx, 2, none⟩ = some (.int .u64 (wd p.set 1)) ∧ W.cell? ⟨nx, 3, none⟩ = some (.int .u64 (wd p.set 2)) ∧ W.cell? ⟨nx, 4, none⟩ = some (.int .u64 (wd p.set 3)) ∧ W.cell? ⟨nx, 5, none⟩ = some (.int .i64 p.lo) ∧ W.cell? ⟨nx, 6, none⟩ = some (.int .i64 p.hi) ∧ W.cell? ⟨nx, 7, none⟩ = some (.slice ap p.kids.length np) ∧ Below w6.heap.size w6 W)
      (first | (with_reducible exact s8_keep hlx (by assumption) (by assumption)) | (with_reducible exact s8_start HX.out (Below.refl _ _).drew) | (with_reducible exact s8_start HX.out (Below.refl _ _)))
      (first
        | (go_at_call 12; (with_reducible refine (C1.out _ (s8_below (by assumption))).mono ?_); rintro e w7 ⟨v7, rfl, HR7, hb7⟩)
        | (go_at_call 13; (with_reducible refine (C2.out _ (s8_below (by assumption))).mono ?_); rintro e w8 ⟨v8, rfl, HR8, hb8⟩)
        | (go_at_call 11; first
          | ((with_reducible refine (C3.out _ _ _ (rd_next HR7 hb8) HR8).mono ?_); rintro e w9 ⟨rfl, hb9⟩)
          | ((with_reducible refine (C3.out _ _ _ HR7 (rd_next HR8 hb7)).mono ?_); rintro e w9 ⟨rfl, hb9⟩)))
    all_goals
      have hfin := below_step HB6.out (s8_below (by assumption))
      go_wp2
      go_ret
      exact ⟨rfl, hfin⟩
end Go.Proofs.YtooaamepflkgnaaDoor
