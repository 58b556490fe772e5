/- Texts that a proof rests on: The reference's Ends and Longest. -/
import Derived.Test.YtpfhhdiipedklaaDoorK36
import Derived.Test.YtpfhhdiipedklaaDoorK37
set_option maxRecDepth 100000
namespace Go.Proofs.YtpfhhdiipedklaaDoor
open Go.RowKit

theorem rdv_row {w : World} {base n : Nat} {v : Value} {l : List Value} (h : w.ownsRow base 3 1 v n l) (hn : l.length = n) : RdV w v l := by
  subst hn
  rcases h.2 with ⟨rfl, e⟩ | ⟨g, cap, cur, rfl, _, hgb, hnc, _, _, hct⟩
  · have : l = [] := List.eq_nil_of_length_eq_zero (by simpa using e)
    subst this
    exact .inl ⟨rfl, rfl⟩
  · refine .inr ⟨g, 0, cap, rfl, fun i hi => ?_⟩
    rw [cell_of_row w g _ _ _ _ hgb, Nat.zero_add]
    have h1 : (cur.toList.take (l.length * 1))[i]? = some l[i] := by rw [hct, List.getElem?_eq_getElem hi]
    rw [List.getElem?_take] at h1
    split at h1
    · simpa using h1
    · cases h1
theorem infoInt : (Tryd.prog.info? 3).map (fun i => (i.zero, i.size, i.bytes)) = some (some (.int .i64 0), 1, 8) := by kernel_rfl
/-- The places that a row has. -/
def placesOf (n : Nat) (g : Nat → Bool) : List Int := ((List.range n).filter g).map Int.ofNat
theorem placesOf_yes {n : Nat} {g : Nat → Bool} (h : g n = true) : placesOf (n + 1) g = placesOf n g ++ [(n : Int)] := by
  unfold placesOf
  rw [List.range_succ, List.filter_append, List.map_append]
  simp [h]
theorem placesOf_no {n : Nat} {g : Nat → Bool} (h : g n = false) : placesOf (n + 1) g = placesOf n g := by
  unfold placesOf
  rw [List.range_succ, List.filter_append, List.map_append]
  simp [h]
theorem placesOf_len (n : Nat) (g : Nat → Bool) : (placesOf n g).length ≤ n := by
  unfold placesOf
  rw [List.length_map]
  have := List.length_filter_le g (List.range n)
  simpa using this
theorem placesOf_nil {n : Nat} {g : Nat → Bool} (h : placesOf n g = []) : ∀ x, x < n → g x = false := by
  intro x hx
  unfold placesOf at h
  have h1 := List.map_eq_nil_iff.1 h
  cases e : g x with
  | false => rfl
  | true =>
    have : x ∈ (List.range n).filter g := List.mem_filter.2 ⟨by simpa using hx, e⟩
    rw [h1] at this; cases this
theorem placesOf_last : ∀ (n : Nat) (g : Nat → Bool) (l : List Int) (z : Int), placesOf n g = l ++ [z] → ∃ x : Nat, z = x ∧ x < n ∧ g x = true ∧ ∀ y, y < n → g y = true → y ≤ x
  | 0, g, l, z, h => by
    have := congrArg List.length h
    simp [placesOf] at this
  | n + 1, g, l, z, h => by
    cases e : g n with
    | true =>
      rw [placesOf_yes e] at h
      obtain ⟨_, h2⟩ := List.append_inj' h rfl
      cases h2
      exact ⟨n, rfl, by omega, e, fun y hy _ => by omega⟩
    | false =>
      rw [placesOf_no e] at h
      obtain ⟨x, h1, h2, h3, h4⟩ := placesOf_last n g l z h
      exact ⟨x, h1, by omega, h3, fun y hy hg => by
        by_cases e2 : y = n
        · subst e2; rw [e] at hg; cases hg
        · exact h4 y (by omega) hg⟩
theorem one_newsI {w : World} {vb : Nat} {x : Value} (hvb : w.heap[vb]? = some (.cells #[x] 3 (0, 0))) : ∀ j u, [x][j]? = some u → w.cell? ((⟨vb, 0, none⟩ : Addr).add j) = some u := by
  intro j u hj
  exact World.news_of_block hvb j u (by simpa using hj)
/-- A row of one's own behind an append to it. -/
theorem push_row {N B n g cap : Nat} {e : TypeId} {w0 w w7 w8 : World} {v : Value} {xs ys : List Value} (h : Below N w0 w) (hrow : w.ownsRow B e 1 v n xs) (hB : N ≤ B) (hN : N ≤ w.heap.size) (h7 : Below w.heap.size w w7) (hg : w7.grownBy w8 v.ownBlock)
    (_hr : w8.ownsRow B e 1 (.slice (some ⟨g, 0, none⟩) (n + 1) cap) (n + 1) ys) : Below N w0 w8 :=
  (h.trans (h7.mono hN)).grown hg (by have := h7.size; omega) (fun k hk => by have := (hrow.lt k hk).1; omega)
theorem push_blk {B b m n : Nat} {e : TypeId} {w w7 w8 : World} {v : Value} {xs : List Value} {f : Nat → Bool} (h : Blk w b m f) (hrow : w.ownsRow B e 1 v n xs) (hb : b < B) (h7 : Below w.heap.size w w7) (hg : w7.grownBy w8 v.ownBlock) : Blk w8 b m f := by
  have h1 := h.below h7
  have h9 := h1.lt
  unfold Blk at *
  rw [hg.block b h9 (fun e => by have := (hrow.lt b e.symm).1; omega)]
  exact h1
/-- What Ends gives. -/
def REnds (s : ByteArray) (p : Pat) (n o N : Nat) (w : World) (e : Ending) (w' : World) : Prop := ∃ v g, e = .returned v ∧ Hid (RdV w' v ((placesOf n g).map (Value.int .i64))) ∧ Hid (∀ x, x ≤ s.size → (g x = true ↔ p.M s o x)) ∧ Hid (Below N w w')
set_option linter.unusedSimpArgs false in
set_option maxHeartbeats 4000000 in
theorem rEnds_any (s : ByteArray) (n : Nat) (p : Pat) (hf : FromC s n p) (hn : s.size + 1 = n) (hsz : s.size ≤ 90) (ks : Value) (w : World) (o : Nat) (ho : o ≤ s.size) (hk : Kids w p.kids ks) :
    Calls Tryd.prog 37 #[(.agg #[.int .i64 p.op, .int .u64 (wd p.set 0), .int .u64 (wd p.set 1), .int .u64 (wd p.set 2), .int .u64 (wd p.set 3), .int .i64 p.lo, .int .i64 p.hi, ks]), .string s, .int .i64 o] w (REnds s p n o w.heap.size w) := by
  obtain ⟨a, cap, rfl⟩ := hk.len
  obtain ⟨i0, hi0, hz0, hz1, hz2⟩ := info_parts infoInt
  have HI := Lib.hid (And.intro hi0 (And.intro hz0 (And.intro hz1 hz2)))
  clear hi0 hz0 hz1 hz2
  obtain ⟨N, hN⟩ : ∃ N, w.heap.size = N := ⟨_, rfl⟩
  have hmk := make_bools (c := (s.size : Int) + 1) (n := n) (by omega) (by omega)
  have HK := Lib.hid (show ∀ wr, Below N w wr → Kids wr p.kids (.slice a p.kids.length cap) from fun wr hbr => hk.below (by rw [hN]; exact hbr))
  have HFR := Lib.hid hf
  have hs2 : ((w.alloc (.cells #[.int .i64 p.op, .int .u64 (wd p.set 0), .int .u64 (wd p.set 1), .int .u64 (wd p.set 2), .int .u64 (wd p.set 3), .int .i64 p.lo, .int .i64 p.hi, .slice a p.kids.length cap] 36)).alloc (.cells (Places n fun _ => false) 4)).heap.size = N + 2 := by simp [hN]
  have hb2 : Below N w ((w.alloc (.cells #[.int .i64 p.op, .int .u64 (wd p.set 0), .int .u64 (wd p.set 1), .int .u64 (wd p.set 2), .int .u64 (wd p.set 3), .int .i64 p.lo, .int .i64 p.hi, .slice a p.kids.length cap] 36)).alloc (.cells (Places n fun _ => false) 4)) := by rw [← hN]; exact below2 w _ _
  have hx2 : ((w.alloc (.cells #[.int .i64 p.op, .int .u64 (wd p.set 0), .int .u64 (wd p.set 1), .int .u64 (wd p.set 2), .int .u64 (wd p.set 3), .int .i64 p.lo, .int .i64 p.hi, .slice a p.kids.length cap] 36)).alloc (.cells (Places n fun _ => false) 4)).heap[N]? = some (.cells #[.int .i64 p.op, .int .u64 (wd p.set 0), .int .u64 (wd p.set 1), .int .u64 (wd p.set 2), .int .u64 (wd p.set 3), .int .i64 p.lo, .int .i64 p.hi, .slice a p.kids.length cap] 36 (0, 0)) := by
    rw [heap_alloc_old _ _ (by simp; omega), ← hN]; exact heap_alloc_new w _
  have hr2 : Blk ((w.alloc (.cells #[.int .i64 p.op, .int .u64 (wd p.set 0), .int .u64 (wd p.set 1), .int .u64 (wd p.set 2), .int .u64 (wd p.set 3), .int .i64 p.lo, .int .i64 p.hi, .slice a p.kids.length cap] 36)).alloc (.cells (Places n fun _ => false) 4)) (N + 1) n (fun _ => false) := by
    have := Blk.new (w.alloc (.cells #[.int .i64 p.op, .int .u64 (wd p.set 0), .int .u64 (wd p.set 1), .int .u64 (wd p.set 2), .int .u64 (wd p.set 3), .int .i64 p.lo, .int .i64 p.hi, .slice a p.kids.length cap] 36)) n (fun _ => false)
    rw [World.size_alloc, hN] at this
    exact this
  have d1 : decide ((o : Int) < 0) = false := by simp
  have d2 : decide ((o : Int) > s.size) = false := by simp; omega
  have d3 : decide ((s.size : Int) < o) = false := by simp; omega
  clear hk hf
  rw [hN]
  go_enter Tryd.func37, Tryd.ntmps37
  go_upto_region 4 with fail
  generalize hw2 : (w.alloc (.cells #[.int .i64 p.op, .int .u64 (wd p.set 0), .int .u64 (wd p.set 1), .int .u64 (wd p.set 2), .int .u64 (wd p.set 3), .int .i64 p.lo, .int .i64 p.hi, .slice a p.kids.length cap] 36)).alloc (.cells (Places n fun _ => false) 4) = w2 at *
  clear hw2 hmk d1 d2 d3
  have HB2 := Lib.hid hb2
  have HX2 := Lib.hid hx2
  have HR2 := Lib.hid hr2
  have HS2 := Lib.hid hs2
  have cl := hr2.cell (i := o) (by omega)
  have fl : w2.frozen? ⟨N + 1, o, none⟩ = false := hr2.frozen
  clear hb2 hx2 hr2
  go_upto_region 5 with fail
  generalize hw3 : w2.setCell ⟨N + 1, o, none⟩ (.bool true) = w3
  have hb23 : Below (N + 1) w2 w3 := by rw [← hw3]; exact (Below.refl _ _).setCell (p := ⟨N + 1, o, none⟩) (Nat.le_refl _) _
  have hs3 : w3.heap.size = N + 2 := by rw [← hw3]; simpa using HS2.out
  have HR3 : Hid (Blk w3 (N + 1) n (fun i => i == o)) := Lib.hid (by rw [← hw3]; exact HR2.out.set (by simp) (fun i _ hne => by simp [hne]))
  have HB3 := Lib.hid (HB2.out.trans (hb23.mono (Nat.le_succ N)))
  obtain ⟨c0, c1, c2, c3, c4, c5, c6, c7⟩ := box8 ((hb23.block N (Nat.lt_succ_self N)).trans HX2.out)
  have HCC := Lib.hid (HFR.out _ w3 (N + 1) _ (HK.out w3 HB3.out) HR3.out)
  clear hw3 hb23 cl fl HB2 HX2 HR2 HS2 hs2
  go_wp2_with (go_at_call 62; refine HCC.out.mono ?_; rintro e w5 ⟨r5, g5, rfl, HR5, HBL5, HG5, HBW5⟩)
  obtain ⟨B, hB⟩ : ∃ B, w5.heap.size = B := ⟨_, rfl⟩
  have hrB : r5 < B := by have := HBL5.out.lt; omega
  have hNB : N ≤ B := by have := HBW5.out.size; omega
  have HB5 := Lib.hid (HB3.out.trans (HBW5.out.mono (by omega)))
  have HGG := Lib.hid (fun x hx => go_one ho HG5.out x hx)
  have HROW0 : Hid (w5.ownsRow B 3 1 (.slice none 0 0) (placesOf 0 g5).length ((placesOf 0 g5).map (Value.int .i64))) := Lib.hid (World.ownsRow_nil _ _ _ _)
  have hB5 : B ≤ w5.heap.size := by omega
  clear c0 c1 c2 c3 c4 c5 c6 c7 HB3 HR3 HCC HFR HK HG5 HBW5 HR5
  go_loopw [9, 10] (fun v x wr => ∃ (k : Nat), x = .int .i64 k ∧ k ≤ n ∧ B ≤ wr.heap.size ∧ Hid (wr.ownsRow B 3 1 v (placesOf k g5).length ((placesOf k g5).map (Value.int .i64))) ∧ Hid (Blk wr r5 n g5) ∧ Hid (Below N w wr)) (fun _ x _ => n - (intOf x).toNat)
  case atStart => exact ⟨0, rfl, Nat.zero_le _, hB5, HROW0, HBL5, HB5⟩
  case round =>
    clear HROW0 HBL5 HB5 hB5
    obtain ⟨k, rfl, hk, hBr, HROW, HBL, HBR⟩ := hrel
    by_cases hlt : k < n
    · have hd : decide ((k : Int) < n) = true := by simpa using hlt
      have cg := HBL.out.cell hlt
      cases hgk : g5 k
      · have HNO := Lib.hid (placesOf_no hgk)
        rw [hgk] at cg
        clear hgk
        go_wp2
        go_roundw
        case rel => exact ⟨k + 1, num_succ k, by omega, hBr, by rw [HNO.out]; exact HROW, HBL, HBR⟩
        case measure => simp [intOf]; omega
      · have HYES := Lib.hid (placesOf_yes hgk)
        have hln := placesOf_len k g5
        rw [hgk] at cg
        clear hgk
        obtain ⟨ln, hlne⟩ : ∃ ln, (placesOf k g5).length = ln := ⟨_, rfl⟩
        rw [hlne] at hln HROW
        have HRA := Lib.hid (HROW.out.alloc (.cells #[.int .i64 k] 3))
        go_wp2_with (at_builtin; refine wpList_append_lies _ rfl _ _ 22 rfl B 3 i0 (.int .i64 0) 1 8 Tryd.underlying22 HI.out.1 HI.out.2.1 HI.out.2.2.1 HI.out.2.2.2 rfl (by decide) u9 ln ((placesOf k g5).map (Value.int .i64)) rfl HRA.out ⟨wr.heap.size, 0, none⟩ 1 1 [.int .i64 k] rfl rfl (one_newsI (heap_alloc_new wr _)) (by simp [Value.oneCell']) (by omega) (by unfold maxLen; omega) (by omega) (by simp; omega) (wr.heap.size + 1) (by simp) ?_; intro g cap2 w8 h2 h3 h4 h5; have HP1 := Lib.hid (push_row HBR.out HROW.out hNB (by omega) ((Below.refl _ _).alloc (Nat.le_refl _) _) h3 h2); have HP2 := Lib.hid (push_blk HBL.out HROW.out hrB ((Below.refl _ _).alloc (Nat.le_refl _) _) h3); have hsz8 := h3.size; have HP3 := Lib.hid h2; clear h2 h3 h4 h5)
        go_roundw
        case rel => exact ⟨k + 1, num_succ k, by omega, by simp at hsz8; omega, by
          rw [HYES.out]
          have := HP3.out
          simpa [hlne] using Lib.hid this, HP2, HP1⟩
        case measure => simp [intOf]; omega
    · obtain rfl : k = n := by omega
      have hd : decide ((k : Int) < k) = false := by simp
      have HRD := Lib.hid (rdv_row HROW.out (by simp))
      go_wp2
      exact bodyPost_ret (v := u9) (by simp [results, Tryd.results37, go_sem, *]) rfl ⟨u9, g5, rfl, HRD, HGG, HBR⟩
end Go.Proofs.YtpfhhdiipedklaaDoor
