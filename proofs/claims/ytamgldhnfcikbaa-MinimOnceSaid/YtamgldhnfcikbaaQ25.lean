/- Texts that a proof rests on: awake08. -/
import Derived.Test.YtamgldhnfcikbaaQ24
import Derived.Test.YtamgldhnfcikbaaK24
set_option maxRecDepth 100000
namespace Go.Proofs.Ytamgldhnfcikbaa
open Go.RowKit

theorem ex_at {w : World} {b0 b1 c : Nat} (h0 : w.heap[b0]? = some (.cells #[.int .u8 97, .int .u8 97, .int .i64 1, .int .u8 98, .int .u8 98, .int .i64 2] 38 (0, 0)))
    (h2 : w.heap[b1]? = some (.cells #[.int .u64 0, .slice (some ⟨b0, 0, none⟩) 2 2, .int .u64 1, .slice none 0 0, .int .u64 1, .slice none 0 0, .int .u64 0, .slice none 0 0] 42 (0, 0))) : MachAt w (.slice (some ⟨b1, 0, none⟩) 4 c) exM := by
  refine ⟨_, c, rfl, fun i hi => ?_⟩
  have hi3 : i < 4 := hi
  match i, hi3 with
  | 0, _ => exact ⟨b1, 0, .slice (some ⟨b0, 0, none⟩) 2 2, rfl, (cell_of_row w b1 0 _ _ _ h2).trans rfl, (cell_of_row w b1 1 _ _ _ h2).trans rfl, ⟨_, 2, rfl, fun k hk => by
      have hk1 : k < 2 := hk
      match k, hk1 with
      | 0, _ => exact ⟨b0, 0, rfl, (cell_of_row w b0 0 _ _ _ h0).trans rfl, (cell_of_row w b0 1 _ _ _ h0).trans rfl, (cell_of_row w b0 2 _ _ _ h0).trans rfl⟩
      | 1, _ => exact ⟨b0, 0, rfl, (cell_of_row w b0 3 _ _ _ h0).trans rfl, (cell_of_row w b0 4 _ _ _ h0).trans rfl, (cell_of_row w b0 5 _ _ _ h0).trans rfl⟩⟩⟩
  | 1, _ => exact ⟨b1, 0, .slice none 0 0, rfl, (cell_of_row w b1 2 _ _ _ h2).trans rfl, (cell_of_row w b1 3 _ _ _ h2).trans rfl, ArcsAt.nil w⟩
  | 2, _ => exact ⟨b1, 0, .slice none 0 0, rfl, (cell_of_row w b1 4 _ _ _ h2).trans rfl, (cell_of_row w b1 5 _ _ _ h2).trans rfl, ArcsAt.nil w⟩
  | 3, _ => exact ⟨b1, 0, .slice none 0 0, rfl, (cell_of_row w b1 6 _ _ _ h2).trans rfl, (cell_of_row w b1 7 _ _ _ h2).trans rfl, ArcsAt.nil w⟩
theorem exL_at {w : World} {b0 b1 c : Nat} (h0 : w.heap[b0]? = some (.cells #[.int .u8 97, .int .u8 98, .int .i64 1] 38 (0, 0)))
    (h2 : w.heap[b1]? = some (.cells #[.int .u64 0, .slice (some ⟨b0, 0, none⟩) 1 1, .int .u64 1, .slice none 0 0] 42 (0, 0))) : MachAt w (.slice (some ⟨b1, 0, none⟩) 2 c) exL := by
  refine ⟨_, c, rfl, fun i hi => ?_⟩
  have hi3 : i < 2 := hi
  match i, hi3 with
  | 0, _ => exact ⟨b1, 0, .slice (some ⟨b0, 0, none⟩) 1 1, rfl, (cell_of_row w b1 0 _ _ _ h2).trans rfl, (cell_of_row w b1 1 _ _ _ h2).trans rfl, ⟨_, 1, rfl, fun k hk => by
      have hk1 : k < 1 := hk
      obtain rfl : k = 0 := by omega
      exact ⟨b0, 0, rfl, (cell_of_row w b0 0 _ _ _ h0).trans rfl, (cell_of_row w b0 1 _ _ _ h0).trans rfl, (cell_of_row w b0 2 _ _ _ h0).trans rfl⟩⟩⟩
  | 1, _ => exact ⟨b1, 0, .slice none 0 0, rfl, (cell_of_row w b1 2 _ _ _ h2).trans rfl, (cell_of_row w b1 3 _ _ _ h2).trans rfl, ArcsAt.nil w⟩
theorem blk_rdv {w : World} {b n : Nat} {S : Nat → Bool} (h : Blk w b n S) : RdV w (.slice (some ⟨b, 0, none⟩) n n) (((List.range n).map S).map Value.bool) := by
  refine .inr ⟨b, 0, n, by simp, fun i hi => ?_⟩
  simp at hi
  rw [Nat.zero_add, h.cell hi]
  simp
theorem ex_diffR {u : List Nat} {f : Bool} (h : DiffP (soundS exM) (soundS []) u f) : strOf u = ⟨#[97]⟩ ∧ f = true := by
  rw [ex_sound, nil_sound] at h
  obtain ⟨rfl, rfl⟩ := h.one ex_diffs
  exact ⟨rfl, rfl⟩
theorem ex_bools {S : Nat → Bool} (h : ∀ s, s < exM.length → (S s = true ↔ Leads exM s ∧ Come exM s)) : (List.range 4).map S = [true, true, true, false] := by
  have h0 : S 0 = true := (h 0 (by decide)).2 ((ex_use 0 (by decide)).2 (by decide))
  have h1 : S 1 = true := (h 1 (by decide)).2 ((ex_use 1 (by decide)).2 (by decide))
  have h2 : S 2 = true := (h 2 (by decide)).2 ((ex_use 2 (by decide)).2 (by decide))
  have h3 : S 3 = false := by
    rw [Bool.eq_false_iff]
    exact fun e => absurd ((ex_use 3 (by decide)).1 ((h 3 (by decide)).1 e)) (by decide)
  show [S 0, S 1, S 2, S 3] = _
  rw [h0, h1, h2, h3]
set_option linter.unusedSimpArgs false in
set_option maxHeartbeats 8000000 in
theorem awake_any (w : World) : Calls Try.prog 6 #[] w fun e w' => e = .returned (.bool true) ∧ Below w.heap.size w w' := by
  obtain ⟨B0, hB⟩ : ∃ B, w.heap.size = B := ⟨_, rfl⟩
  rw [hB]
  go_enter Try.func6, Try.ntmps6
  go_upto_region 2 with fail
  obtain ⟨w1, hw1⟩ : ∃ w1, (w.alloc (.cells #[.int .u8 97, .int .u8 97, .int .i64 1, .int .u8 98, .int .u8 98, .int .i64 2] 38)).alloc (.cells #[.int .u64 0, .slice (some ⟨B0, 0, none⟩) 2 2, .int .u64 1, .slice none 0 0, .int .u64 1, .slice none 0 0, .int .u64 0, .slice none 0 0] 42) = w1 := ⟨_, rfl⟩
  have h0 : w1.heap[B0]? = some (.cells #[.int .u8 97, .int .u8 97, .int .i64 1, .int .u8 98, .int .u8 98, .int .i64 2] 38 (0, 0)) := by
    rw [← hw1, heap_alloc_old _ _ (by simp; omega), ← hB]; exact heap_alloc_new w _
  have h1 : w1.heap[B0 + 1]? = some (.cells #[.int .u64 0, .slice (some ⟨B0, 0, none⟩) 2 2, .int .u64 1, .slice none 0 0, .int .u64 1, .slice none 0 0, .int .u64 0, .slice none 0 0] 42 (0, 0)) := by
    rw [← hw1]
    have := heap_alloc_new (w.alloc (.cells #[.int .u8 97, .int .u8 97, .int .i64 1, .int .u8 98, .int .u8 98, .int .i64 2] 38)) (.cells #[.int .u64 0, .slice (some ⟨B0, 0, none⟩) 2 2, .int .u64 1, .slice none 0 0, .int .u64 1, .slice none 0 0, .int .u64 0, .slice none 0 0] 42)
    rw [World.size_alloc, hB] at this; exact this
  have HB1 : Hid (Below B0 w w1) := Lib.hid (by
    rw [← hw1, ← hB]
    exact ((Below.refl _ w).alloc (Nat.le_refl _) _).alloc (by simp) _)
  have hm1 : MachAt w1 (.slice (some ⟨B0 + 1, 0, none⟩) 4 4) exM := ex_at h0 h1
  have hs1 : w1.heap.size = B0 + 2 := by rw [← hw1]; simp [hB]
  rw [hw1]
  clear hw1 h0 h1 hB
  generalize B0 + 1 = bm at *
  have HLE := Lib.hid (pleast_any (.slice (some ⟨bm, 0, none⟩) 4 4) exM w1 hm1 ex_len ex_mays)
  have HM1 := Lib.hid hm1
  have HS1 := Lib.hid hs1
  clear hm1 hs1
  go_upto_region 3 with (go_at_call 8; (with_reducible refine HLE.out.mono ?_); rintro e w2 ⟨u, K, he, HK, HLP, HB2⟩; rw [he]; clear he)
  have hK := ex_least HLP.out
  subst hK
  have HM2 := Lib.hid (HM1.out.below HB2.out)
  obtain ⟨la, lc, hu, hx⟩ := HK.out
  have hu : u = .slice la 2 lc := hu
  obtain ⟨lb, lo, _, hla, _⟩ := hx 0 (by decide)
  subst hla
  subst hu
  have HMZ : Hid (∀ W : World, MachAt W (.slice (some ⟨lb, lo, none⟩) 0 lc) []) := Lib.hid (fun W => ⟨_, lc, rfl, fun i hi => by simp at hi⟩)
  have HBN2 : Hid (Below B0 w w2) := Lib.hid (HB1.out.trans (HB2.out.mono (by rw [HS1.out]; omega)))
  have HN2 : Hid (B0 ≤ w2.heap.size) := Lib.hid (by have := HB2.out.size; have := HS1.out; omega)
  clear hx
  have HSH : Hid (∀ W, Below w2.heap.size w2 W → Calls Try.prog 15 #[.slice (some ⟨bm, 0, none⟩) 4 4] W fun e w' => e = .returned (.tuple #[.string ⟨#[97]⟩, .bool true]) ∧ Hid (Below W.heap.size W w')) := Lib.hid (fun W h => (pshortest_any _ exM W (HM2.out.below h) ex_len ex_mays).mono fun e w' ⟨⟨u, f, he, hd⟩, hb⟩ => by
    obtain ⟨e1, e2⟩ := ex_diffR hd.out
    exact ⟨by rw [he, e1, e2], hb⟩)
  have HDF : Hid (∀ W, Below w2.heap.size w2 W → Calls Try.prog 13 #[.slice (some ⟨bm, 0, none⟩) 4 4, .slice (some ⟨lb, lo, none⟩) 0 lc] W fun e w' => e = .returned (.tuple #[.string ⟨#[97]⟩, .bool true]) ∧ Hid (Below W.heap.size W w')) := Lib.hid (fun W h => (pdiffer_any _ _ exM [] W (HM2.out.below h) (HMZ.out W) ex_len (fun s hs => by cases hs) ex_mays (fun s hs => by cases hs)).mono fun e w' ⟨⟨u, f, he, hd⟩, hb⟩ => by
    obtain ⟨e1, e2⟩ := ex_diffR hd.out
    exact ⟨by rw [he, e1, e2], hb⟩)
  have HA1 : Hid (∀ W, Below w2.heap.size w2 W → Calls Try.prog 17 #[.slice (some ⟨bm, 0, none⟩) 4 4, .slice (some ⟨lb, lo, none⟩) 2 lc] W fun e w' => e = .returned (.bool true) ∧ Hid (Below W.heap.size W w')) := Lib.hid (fun W h => (palike_any _ _ exM exL W (HM2.out.below h) (HK.out.below h) ex_len exL_len ex_mays exL_mays).mono fun e w' ⟨⟨b, he, hd⟩, hb⟩ => by
    rw [ex_sound, exL_sound] at hd
    exact ⟨by rw [he, alikeP_one hd (ex_alike HLP.out)], hb⟩)
  have HA2 : Hid (∀ W, Below w2.heap.size w2 W → Calls Try.prog 17 #[.slice (some ⟨bm, 0, none⟩) 4 4, .slice none 0 0] W fun e w' => e = .returned (.bool false) ∧ Hid (Below W.heap.size W w')) := Lib.hid (fun W h => (palike_any _ _ exM [] W (HM2.out.below h) (MachAt.nil W) ex_len (fun s hs => by cases hs) ex_mays (fun s hs => by cases hs)).mono fun e w' ⟨⟨b, he, hd⟩, hb⟩ => by
    rw [ex_sound, nil_sound] at hd
    exact ⟨by rw [he, alikeP_one hd ex_nil], hb⟩)
  have HUS : Hid (∀ W, Below w2.heap.size w2 W → Calls Try.prog 11 #[.slice (some ⟨bm, 0, none⟩) 4 4] W fun e w' => ∃ b, e = .returned (.slice (some ⟨b, 0, none⟩) 4 4) ∧ Hid (RdV w' (.slice (some ⟨b, 0, none⟩) 4 4) ([true, true, true, false].map Value.bool)) ∧ Hid (Below W.heap.size W w')) := Lib.hid (fun W h => (puseful_wide _ exM W (HM2.out.below h) ex_len ex_mays).mono fun e w' ⟨hb, hp⟩ => by
    rw [ex_sound] at hp
    rcases hp with ⟨h9, _⟩ | ⟨_, b, S, he, _, hbk, hS⟩
    · cases h9
    · refine ⟨b, he, Lib.hid ?_, hb⟩
      have h := blk_rdv hbk.out
      rw [show exM.length = 4 from rfl, ex_bools hS.out] at h
      exact h)
  have HSA : Hid (∀ W, Below w2.heap.size w2 W → Calls Try.prog 7 #[.slice (some ⟨lb, lo, none⟩) 2 lc, .slice (some ⟨W.heap.size + 1, 0, none⟩) 2 2] ((W.alloc (.cells #[.int .u8 97, .int .u8 98, .int .i64 1] 38)).alloc (.cells #[.int .u64 0, .slice (some ⟨W.heap.size, 0, none⟩) 1 1, .int .u64 1, .slice none 0 0] 42)) fun e w' => e = .returned (.bool true) ∧ Hid (Below W.heap.size W w')) := Lib.hid (fun W h => by
    have hbb : Below W.heap.size W ((W.alloc (.cells #[.int .u8 97, .int .u8 98, .int .i64 1] 38)).alloc (.cells #[.int .u64 0, .slice (some ⟨W.heap.size, 0, none⟩) 1 1, .int .u64 1, .slice none 0 0] 42)) := ((Below.refl _ W).alloc (Nat.le_refl _) _).alloc (by simp) _
    have hla : MachAt ((W.alloc (.cells #[.int .u8 97, .int .u8 98, .int .i64 1] 38)).alloc (.cells #[.int .u64 0, .slice (some ⟨W.heap.size, 0, none⟩) 1 1, .int .u64 1, .slice none 0 0] 42)) (.slice (some ⟨W.heap.size + 1, 0, none⟩) 2 2) exL :=
      exL_at (b0 := W.heap.size) (by rw [heap_alloc_old _ _ (by simp)]; exact heap_alloc_new W _) (by have h := heap_alloc_new (W.alloc (.cells #[.int .u8 97, .int .u8 98, .int .i64 1] 38)) (.cells #[.int .u64 0, .slice (some ⟨W.heap.size, 0, none⟩) 1 1, .int .u64 1, .slice none 0 0] 42); rw [World.size_alloc] at h; exact h)
    refine (rsame07_any _ _ exL exL _ ((HK.out.below h).below hbb) hla (by decide) exL_len exL_len).mono fun e w' ⟨he, hb⟩ => ⟨by rw [he, sameB_true.2 rfl], Lib.hid (hbb.trans (hb.mono (by simp; omega)))⟩)
  have HBO : Hid (∀ (W : World) (b : Nat), RdV W (.slice (some ⟨b, 0, none⟩) 4 4) ([true, true, true, false].map Value.bool) → Calls Try.prog 10 #[.slice (some ⟨b, 0, none⟩) 4 4, .slice (some ⟨W.heap.size, 0, none⟩) 4 4] (W.alloc (.cells #[.bool true, .bool true, .bool true, .bool false] 4)) fun e w' => e = .returned (.bool true) ∧ Hid (Below W.heap.size W w')) := Lib.hid (fun W b h => by
    have hbb := new_one W (.cells #[.bool true, .bool true, .bool true, .bool false] 4)
    have h2 : RdV (W.alloc (.cells #[.bool true, .bool true, .bool true, .bool false] 4)) (.slice (some ⟨W.heap.size, 0, none⟩) 4 4) ([true, true, true, false].map Value.bool) := by
      refine .inr ⟨W.heap.size, 0, 4, rfl, fun i hi => ?_⟩
      have hi4 : i < 4 := hi
      rw [Nat.zero_add, cell_of_row _ _ i _ _ _ (heap_alloc_new W _)]
      match i, hi4 with
      | 0, _ => rfl
      | 1, _ => rfl
      | 2, _ => rfl
      | 3, _ => rfl
    exact (rbools_any _ _ [true, true, true, false] [true, true, true, false] _ (h.below hbb) h2 (by decide)).mono fun e w' ⟨he, hb⟩ => ⟨by rw [he]; rfl, Lib.hid (hbb.trans (hb.mono (by simp)))⟩)
  have HS2 := Lib.hid (HSH.out w2 (Below.refl _ _))
  clear HM2 HK HLP HLE HM1 HS1 HB1 HB2 HSH HMZ
  go_upto_region 4 with (go_at_call 15; (with_reducible refine HS2.out.mono ?_); rintro e w3 ⟨he, HB3⟩; rw [he]; clear he)
  have HD3 := Lib.hid (HDF.out w3 HB3.out)
  clear HS2 HDF
  go_upto_region 5 with (go_at_call 13; (with_reducible refine HD3.out.mono ?_); rintro e w4 ⟨he, HB4a⟩; rw [he]; clear he; have HB4 : Hid (Below w2.heap.size w2 w4) := Lib.hid (HB3.out.trans (HB4a.out.mono HB3.out.size)))
  have HS4 := Lib.hid (HSA.out w4 HB4.out)
  clear HD3 HSA
  go_wp2_with (first
    | (go_at_call 7; (with_reducible refine HS4.out.mono ?_); rintro e w5 ⟨he, HB5a⟩; rw [he]; clear he; have HB5 : Hid (Below w2.heap.size w2 w5) := Lib.hid (HB4.out.trans (HB5a.out.mono HB4.out.size)); have HA5 := Lib.hid (HA1.out w5 HB5.out))
    | (go_at_call 17; (with_reducible refine HA5.out.mono ?_); rintro e w6 ⟨he, HB6a⟩; rw [he]; clear he; have HB6 : Hid (Below w2.heap.size w2 w6) := Lib.hid (HB5.out.trans (HB6a.out.mono HB5.out.size)); have HA6 := Lib.hid (HA2.out w6 HB6.out))
    | (go_at_call 17; (with_reducible refine HA6.out.mono ?_); rintro e w7 ⟨he, HB7a⟩; rw [he]; clear he; have HB7 : Hid (Below w2.heap.size w2 w7) := Lib.hid (HB6.out.trans (HB7a.out.mono HB6.out.size)); have HU7 := Lib.hid (HUS.out w7 HB7.out))
    | (go_at_call 11; (with_reducible refine HU7.out.mono ?_); rintro e w8 ⟨bu, he, HR8, HB8a⟩; rw [he]; clear he; have HB8 : Hid (Below w2.heap.size w2 w8) := Lib.hid (HB7.out.trans (HB8a.out.mono HB7.out.size)); have HO8 := Lib.hid (HBO.out w8 bu HR8.out))
    | (go_at_call 10; (with_reducible refine HO8.out.mono ?_); rintro e w9 ⟨he, HB9a⟩; rw [he]; clear he; have HB9 : Hid (Below w2.heap.size w2 w9) := Lib.hid (HB8.out.trans (HB9a.out.mono HB8.out.size))))
  exact bodyPost_ret (v := .bool true) (by simp [results, Try.results6, go_sem, *]) rfl ⟨rfl, HBN2.out.trans (HB9.out.mono HN2.out)⟩
end Go.Proofs.Ytamgldhnfcikbaa
