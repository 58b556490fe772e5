/- The contract of classes.Table. -/
import Derived.Test.YtiikmpgadmmjeaaCD
set_option maxRecDepth 100000
namespace Go.Proofs.Ytiikmpgadmmjeaa
open Go.RowKit
attribute [local go_sem] zero_u8s

set_option maxHeartbeats 4000000 in
theorem tab1_any (bc bm bl L n s : Nat) (vm : Value) (m : List Sta) (f : Nat → Nat) (w : World) (hv : MachAt w vm m) (hl : ∀ s ∈ m, s.arcs.length < 9223372036854775808) (hm : Mays m) (hn : n ≤ 256) (h1 : Bx w bc 3 (.int .i64 n)) (h2 : Bx w bm 23 vm) (h3 : Bx w bl 28 (.slice (some ⟨L, 0, none⟩) n n)) (h4 : LBlk w L n f) :
    Calls Try.prog 28 #[.int .i64 s, .pointer (some ⟨bc, 0, none⟩), .pointer (some ⟨bm, 0, none⟩), .pointer (some ⟨bl, 0, none⟩)] w fun e w' => ∃ v, e = .returned v ∧ Hid (w'.ownsRow w.heap.size 3 1 v n (numV ((List.range n).map fun k => nextS m s (f k)))) ∧ Hid (Below w.heap.size w w') := by
  obtain ⟨B0, hB⟩ : ∃ B, w.heap.size = B := ⟨_, rfl⟩
  have hb1 : Below w.heap.size w (w.alloc (.cells #[.int .i64 s] 3)) := new_one w _
  have HX := Lib.hid (Bx.new w 3 (.int .i64 s))
  have HLI := Lib.hid (lint_any n #[.pointer (some ⟨bm, 0, none⟩), .pointer (some ⟨w.heap.size, 0, none⟩), .pointer (some ⟨bl, 0, none⟩)] (fun k => nextS m s (f k)) (w.alloc (.cells #[.int .i64 s] 3)) (by omega) _ _ _ rfl
    (fun k hk W hW => tab11_any bm w.heap.size bl L n k s vm m f W ((hv.below hb1).below hW) hl hm ((h2.below hb1).below hW) (HX.out.below hW) ((h3.below hb1).below hW) ((h4.below hb1).below hW) hk))
  have c1 := (h1.below hb1).cell
  have HB1 := Lib.hid hb1
  clear hv hl hm h1 h2 h3 h4 HX hb1
  rw [hB] at HLI HB1 ⊢
  rw [World.size_alloc, hB] at HLI
  go_enter Try.func28, Try.ntmps28
  go_wp2_with (go_at_call 29; (with_reducible refine HLI.out.mono ?_); rintro e w5 ⟨v, rfl, hr, hb5⟩)
  exact bodyPost_ret (v := v) (by simp [results, Try.results28, go_sem, *]) rfl ⟨v, rfl, Lib.hid (own_weak hr.out (Nat.le_succ B0)), Lib.hid (HB1.out.trans (hb5.out.mono (Nat.le_succ B0)))⟩
set_option maxHeartbeats 4000000 in
theorem llint_any (n c : Nat) (caps : Array Value) (g : Nat → List Int) (w : World) (hn : n < 1000000) (p1 p2 p3 : Value) (hcap : caps = #[p1, p2, p3]) (hg : ∀ k, (g k).length = c)
    (hcl : ∀ k, k < n → ∀ W, Below w.heap.size w W → Calls Try.prog 28 #[.int .i64 (k : Nat), p1, p2, p3] W fun e w' => ∃ v, e = .returned v ∧ Hid (w'.ownsRow W.heap.size 3 1 v c (numV (g k))) ∧ Hid (Below W.heap.size W w')) :
    Calls Try.prog 27 #[.int .i64 n, .func (.func 28) #[] caps] w fun e w' => ∃ v vs, e = .returned v ∧ Hid (Rows2 w' w.heap.size v vs ((List.range n).map g)) ∧ Hid (Below w.heap.size w w') := by
  subst hcap
  obtain ⟨i0, hi, hz0, hz1, hz2⟩ := info_parts (show (Try.prog.info? 44).map (fun i => (i.zero, i.size, i.bytes)) = some (some (.slice none 0 0), 1, 24) from by kernel_rfl)
  have HI := Lib.hid (⟨hi, hz0, hz1, hz2⟩ : Try.prog.info? 44 = some i0 ∧ i0.zero = some (.slice none 0 0) ∧ i0.size = 1 ∧ i0.bytes = 24)
  clear hi hz0 hz1 hz2
  obtain ⟨N, hN⟩ : ∃ N, w.heap.size = N := ⟨_, rfl⟩
  have HCL := Lib.hid hcl
  have HG := Lib.hid hg
  clear hcl hg
  have hNw : N ≤ w.heap.size := by omega
  rw [hN] at HCL ⊢
  clear hN
  go_enter Try.func27, Try.ntmps27
  go_wp2
  go_loopw [5, 6, 8] (fun u _ z wr => ∃ k : Nat, z = .int .i64 k ∧ k ≤ n ∧ N ≤ wr.heap.size ∧ Hid (∃ vs, Rows2 wr N u vs ((List.range k).map g)) ∧ Hid (Below N w wr)) (fun _ _ z _ => n - (intOf z).toNat)
  case atStart => exact ⟨0, rfl, Nat.zero_le _, hNw, Lib.hid ⟨[], Rows2.nil _ _⟩, Lib.hid (Below.refl _ _)⟩
  case round =>
    clear hNw
    obtain ⟨k, rfl, hk, hNr, HR, HB⟩ := hrel
    by_cases hlt : k < n
    · have hd : decide ((k : Int) < n) = true := decide_eq_true (by omega)
      have HCK := Lib.hid (HCL.out k hlt wr HB.out)
      have HSN := Lib.hid (range_snoc g k)
      have hgk := HG.out k
      obtain ⟨vs, hvs⟩ := HR.out
      have HV := Lib.hid hvs
      have hlen : ((List.range k).map g).length = k := by simp
      have hown := hvs.own
      rw [hlen] at hown
      obtain ⟨a3, cp3, rfl⟩ := row_form hown
      clear hown hvs HR
      obtain ⟨xs, hxs⟩ : ∃ xs, (List.range k).map g = xs := ⟨_, rfl⟩
      rw [hxs] at HV HSN hlen
      clear hxs
      obtain ⟨x, hx⟩ : ∃ x, g k = x := ⟨_, rfl⟩
      rw [hx] at HCK HSN hgk
      clear hx
      have HLEN := Lib.hid hlen
      clear hlen
      go_wp2_with (first
        | (go_at_call 28; (with_reducible refine HCK.out.mono ?_); rintro e w5 ⟨v5, rfl, hr5, hb5⟩; obtain ⟨a5, c5, rfl⟩ := row_form hr5.out; have HB5 := Lib.hid hb5.out; have HV5 := Lib.hid (HV.out.below HB5.out); have hN5 : N ≤ w5.heap.size := Nat.le_trans hNr HB5.out.size; have HROW5 : Hid (w5.ownsRow N 44 1 (.slice a3 k cp3) k vs) := Lib.hid (by have := HV5.out.own; rw [HLEN.out] at this; exact this); have HRA := Lib.hid (HROW5.out.alloc (.cells #[.slice a5 c c5] 44)); have HU5 : Hid (w5.ownsRow N 3 1 (.slice a5 c c5) x.length (numV x)) := Lib.hid (by rw [hgk]; exact own_weak hr5.out hNr); clear hb5 hr5)
        | (at_builtin; refine wpList_append_lies _ rfl _ _ 31 rfl N 44 i0 (.slice none 0 0) 1 24 Try.underlying31 HI.out.1 HI.out.2.1 HI.out.2.2.1 HI.out.2.2.2 rfl (by decide) (.slice a3 k cp3) k vs rfl HRA.out ⟨w5.heap.size, 0, none⟩ 1 1 [.slice a5 c c5] rfl rfl (news_in (cs := #[.slice a5 c c5]) (heap_alloc_new w5 _)) (by simp [Value.oneCell']) (by omega) (by unfold maxLen; omega) (by omega) (by simp; omega) (w5.heap.size + 1) (by simp) ?_; intro g2 cap2 w8 h2 h3 h4 h5; have HP1 := Lib.hid (push3 (HB.out.trans (HB5.out.mono hNr)) HROW5.out (Nat.le_refl N) hN5 ((Below.refl _ _).alloc (Nat.le_refl _) _) h3); have hsz8 := h3.size; have HP3 := Lib.hid (HV5.out.push HU5.out ((Below.refl _ _).alloc (Nat.le_refl _) _) h3 (by rw [HLEN.out]; exact h2)); clear h2 h3 h4 h5))
      exact ⟨⟨k + 1, rfl, hlt, by simp at hsz8; omega, Lib.hid ⟨_, by rw [HSN.out]; exact HP3.out⟩, HP1⟩, by simp only [intOf]; omega⟩
    · obtain rfl : k = n := by omega
      have hd : decide ((k : Int) < k) = false := by simp
      obtain ⟨vs, hvs⟩ := HR.out
      have HV := Lib.hid hvs
      clear hvs HR
      go_wp2
      exact bodyPost_ret (v := u5) (by simp [results, Try.results27, go_sem, *]) rfl ⟨u5, vs, rfl, HV, HB⟩
set_option maxHeartbeats 4000000 in
theorem table_any (v : Value) (m : List Sta) (w : World) (hv : MachAt w v m) (hml : m.length < 1000000) (hl : ∀ s ∈ m, s.arcs.length < 9223372036854775808) (hm : Mays m) :
    Calls Try.prog 13 #[v] w fun e w' => ∃ u vs, e = .returned u ∧ Hid (Rows2 w' w.heap.size u vs (tabS m)) ∧ Hid (Below w.heap.size w w') := by
  obtain ⟨B0, hB⟩ : ∃ B, w.heap.size = B := ⟨_, rfl⟩
  obtain ⟨av, cv, rfl⟩ := hv.len
  obtain ⟨cl, hcl⟩ : ∃ cl, clsOf (likeB m) = cl := ⟨_, rfl⟩
  obtain ⟨w1, hw1⟩ : ∃ w1, w.alloc (.cells #[.slice av m.length cv] 23) = w1 := ⟨_, rfl⟩
  have hb01 : Below w.heap.size w w1 := by rw [← hw1]; exact new_one w _
  have hx1 : Bx w1 B0 23 (.slice av m.length cv) := by rw [← hw1, ← hB]; exact Bx.new w _ _
  have hv1 := hv.below hb01
  have hs1 : w1.heap.size = B0 + 1 := by rw [← hw1]; simp [hB]
  have HOF := Lib.hid (of_any _ m w1 hv1 hml hl hm)
  rw [hcl] at HOF
  have c1 := hx1.cell
  have HTS := Lib.hid (show tabS m = (List.range m.length).map fun s => (List.range (cntOf m)).map fun k => nextS m (s : Nat) (lowF cl 256 k) from by rw [← hcl]; rfl)
  have HLW := Lib.hid (fun (W : World) => lows_any cl (cntOf m) W (by rw [← hcl]; exact cls_lt m) (by rw [← hcl]; exact cnt_mx m))
  have hcn := cntOf_le m
  have HT1 := Lib.hid (fun (bc bl L s : Nat) (W : World) (hW : Below w1.heap.size w1 W) => tab1_any bc B0 bl L (cntOf m) s (.slice av m.length cv) m (lowF cl 256) W (hv1.below hW) hl hm hcn)
  have HX1 := Lib.hid hx1
  have HB1 := Lib.hid hb01
  clear hcl hv hv1 hl hm hb01 hx1
  obtain ⟨I1, hI1⟩ : ∃ I1, U8s (fun _ => 0) = I1 := ⟨_, rfl⟩
  have HI1 := Lib.hid hI1
  have hz := zero_u8s
  rw [hI1] at hz
  clear hI1
  obtain ⟨n, hn⟩ : ∃ n, cntOf m = n := ⟨_, rfl⟩
  rw [hn] at HOF HTS HLW hcn HT1
  clear hn
  rw [hB] at HB1 ⊢
  go_enter Try.func13, Try.ntmps13
  go_upto_region 2 with (first
    | (go_at_call 8; (with_reducible refine HOF.out.mono ?_); rintro e w5 ⟨rfl, hb5⟩; have HB5 := Lib.hid hb5; obtain ⟨n5, hn5⟩ : ∃ n5, w5.heap.size = n5 := ⟨_, rfl⟩; have HN5 := Lib.hid hn5; have HC5 : Hid (UBlk ((w5.alloc (.cells I1 24)).alloc (.cells #[.int .i64 0] 3)) n5 fun _ => 0) := Lib.hid (by unfold UBlk; rw [heap_alloc_old _ _ (by simp; omega), HI1.out, ← hn5]; exact heap_alloc_new w5 _); have hbk : (((w5.alloc (.cells I1 24)).alloc (.cells #[.int .i64 0] 3)).setRow n5 (U8s cl)).heap[n5 + 1]? = some (.cells #[.int .i64 0] 3 (0, 0)) := (by
        show (World.heap _ |>.modify n5 _)[n5 + 1]? = _
        rw [Array.getElem?_modify, if_neg (by omega)]
        have h9 := heap_alloc_new (w5.alloc (.cells I1 24)) (.cells #[.int .i64 0] 3)
        rw [World.size_alloc, hn5] at h9; exact h9); have HBK := Lib.hid hbk; have hc6 : (((w5.alloc (.cells I1 24)).alloc (.cells #[.int .i64 0] 3)).setRow n5 (U8s cl)).cell? ⟨n5 + 1, 0, none⟩ = some (.int .i64 0) := (cell_of_row _ _ 0 _ _ _ hbk).trans rfl; have hf6 : (((w5.alloc (.cells I1 24)).alloc (.cells #[.int .i64 0] 3)).setRow n5 (U8s cl)).frozen? ⟨n5 + 1, 0, none⟩ = false := frozen_row hbk; clear hb5 hbk)
    | (refine wpList_store_u8c n5 (fun _ => 0) cl HC5.out rfl _ _ rfl rfl rfl ?_))
  clear hc6 hf6
  obtain ⟨w6, hw6⟩ : ∃ w6, (((w5.alloc (.cells I1 24)).alloc (.cells #[.int .i64 0] 3)).setRow n5 (U8s cl)).setCell ⟨n5 + 1, 0, none⟩ (.int .i64 (n : Nat)) = w6 := ⟨_, rfl⟩
  have hn5 := HN5.out
  have hb56 : Below n5 w5 w6 := by
    rw [← hw6]
    exact (below_setRow (((Below.refl n5 w5).alloc (by omega) _).alloc (by simp; omega) _) (Nat.le_refl n5) _).setCell (by show n5 ≤ n5 + 1; omega) _
  have HC6 : Hid (UBlk w6 n5 cl) := Lib.hid (by rw [← hw6]; exact (HC5.out.setRow (g := cl)).other (by show n5 ≠ n5 + 1; omega) _)
  have hx6 : Bx w6 (n5 + 1) 3 (.int .i64 n) := by
    unfold Bx
    rw [← hw6, setCell_block HBK.out]; rfl
  have hb16 : Below w1.heap.size w1 w6 := HB5.out.trans (hb56.mono (by have := HB5.out.size; omega))
  have hs6 : n5 + 2 ≤ w6.heap.size := by
    have := lt_of_block hx6
    omega
  have HX6 := Lib.hid hx6
  have HB16 := Lib.hid hb16
  have HLW6 := Lib.hid (HLW.out w6)
  have hs16 := hb16.size
  have HM6 := Lib.hid (HX1.out.below hb16)
  rw [hw6]
  clear hw6 hx6 hb16 hb56 HC5 HBK HB5 c1 HLW HOF hz
  obtain ⟨w7, hw7⟩ : ∃ w7 : World, w7 = w6 := ⟨_, rfl⟩
  clear w7 hw7
  go_upto_region 3 with (first
    | (refine wpList_load_u8c n5 cl HC6.out rfl _ rfl rfl ?_)
    | (go_at_call 10; (with_reducible refine HLW6.out.mono ?_); rintro e w7 ⟨L, rfl, hL, HL7, HB7⟩))
  obtain ⟨n7, hn7⟩ : ∃ n7, w7.heap.size = n7 := ⟨_, rfl⟩
  obtain ⟨w8, hw8⟩ : ∃ w8, w7.alloc (.cells #[.slice (some ⟨L, 0, none⟩) n n] 28) = w8 := ⟨_, rfl⟩
  have hb78 : Below w7.heap.size w7 w8 := by rw [← hw8]; exact new_one w7 _
  have hx8 : Bx w8 n7 28 (.slice (some ⟨L, 0, none⟩) n n) := by rw [← hw8, ← hn7]; exact Bx.new w7 _ _
  have hb68 : Below w6.heap.size w6 w8 := HB7.out.trans (hb78.mono HB7.out.size)
  have hx68 := HX6.out.below hb68
  have hL8 := HL7.out.below hb78
  have hm8 := HM6.out.below hb68
  have hb18 : Below w1.heap.size w1 w8 := HB16.out.trans (hb68.mono hs16)
  have HB8 := Lib.hid hb18
  have HLL := Lib.hid (llint_any m.length n #[.pointer (some ⟨n5 + 1, 0, none⟩), .pointer (some ⟨B0, 0, none⟩), .pointer (some ⟨n7, 0, none⟩)] (fun s => (List.range n).map fun k => nextS m (s : Nat) (lowF cl 256 k)) w8 hml _ _ _ rfl (fun k => by simp)
    (fun s _ W hW => HT1.out (n5 + 1) n7 L s W (hb18.trans (hW.mono hb18.size)) (hx68.below hW) (hm8.below hW) (hx8.below hW) (hL8.below hW)))
  rw [← HTS.out] at HLL
  have c8 := hm8.cell
  have hs78 := hb78.size
  have hs67 := HB7.out.size
  rw [hn7, hw8]
  clear hw8 hb78 hx8 hb68 hx68 hL8 hm8 hb18 HT1 HTS HX6 HC6 HM6 HL7 HB7 HLW6
  go_wp2_with (go_at_call 27; (with_reducible refine HLL.out.mono ?_); rintro e w9 ⟨v, vs, rfl, hr, hb9⟩)
  have hB8 := HB8.out.size
  exact bodyPost_ret (v := v) (by simp [results, Try.results13, go_sem, *]) rfl ⟨v, vs, rfl, Lib.hid ⟨hr.out.len, own_weak hr.out.own (by omega), fun i h1 h2 => own_weak (hr.out.row i h1 h2) (by omega)⟩, Lib.hid (HB1.out.trans ((HB8.out.trans (hb9.out.mono hB8)).mono (by omega)))⟩
end Go.Proofs.Ytiikmpgadmmjeaa
