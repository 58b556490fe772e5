/- The contract of the reference's Table. -/
import Derived.Test.YtiikmpgadmmjeaaCD
import Derived.Test.YtiikmpgadmmjeaaCG
import Derived.Test.YtiikmpgadmmjeaaCH
set_option maxRecDepth 100000
namespace Go.Proofs.Ytiikmpgadmmjeaa
open Go.RowKit
attribute [local go_sem] zero_u8s

theorem lblk_push {N b n k : Nat} {w w7 w8 : World} {v : Value} {vs : List Value} {f : Nat → Nat} (h : LBlk w b n f) (hv : w.ownsRow N 44 1 v k vs) (h7 : Below w.heap.size w w7) (h3 : w7.grownBy w8 v.ownBlock) : LBlk w8 b n f := by
  have hne : some b ≠ v.ownBlock := fun e => by
    obtain ⟨c2, h2⟩ := row_block hv e.symm
    unfold LBlk at h
    rw [h] at h2
    injection h2 with h2
    injection h2 with _ h2 _
    exact absurd h2 (by decide)
  have h1 := h.below h7
  exact (h3.block b h1.lt hne).trans h1
set_option maxHeartbeats 8000000 in
theorem rtable_any (v : Value) (m : List Sta) (w : World) (hv : MachAt w v m) (hml : m.length < 1000000) (hl : ∀ s ∈ m, s.arcs.length < 9223372036854775808) (hm : Mays m) :
    Calls Try.prog 14 #[v] w fun e w' => ∃ u vs, e = .returned u ∧ Hid (Rows2 w' w.heap.size u vs (tabS m)) ∧ Hid (Below w.heap.size w w') := by
  obtain ⟨i0, hi, hz0, hz1, hz2⟩ := info_parts infoI
  have HI := Lib.hid (⟨hi, hz0, hz1, hz2⟩ : Try.prog.info? 3 = some i0 ∧ i0.zero = some (.int .i64 0) ∧ i0.size = 1 ∧ i0.bytes = 8)
  clear hi hz0 hz1 hz2
  obtain ⟨i1, hi, hz0, hz1, hz2⟩ := info_parts (show (Try.prog.info? 44).map (fun i => (i.zero, i.size, i.bytes)) = some (some (.slice none 0 0), 1, 24) from by kernel_rfl)
  have HJ := Lib.hid (⟨hi, hz0, hz1, hz2⟩ : Try.prog.info? 44 = some i1 ∧ i1.zero = some (.slice none 0 0) ∧ i1.size = 1 ∧ i1.bytes = 24)
  clear hi hz0 hz1 hz2
  obtain ⟨B0, hB⟩ : ∃ B, w.heap.size = B := ⟨_, rfl⟩
  obtain ⟨av, cv, rfl⟩ := hv.len
  have HOF := Lib.hid (rof_any _ m w hv hml hl hm)
  have HNX := Lib.hid (fun (W : World) (hb : Below B0 w W) (s : Int) (c : Nat) => rnext_any _ m s c W (hv.below (by rw [hB]; exact hb)) hl hm)
  obtain ⟨cl, hcl⟩ : ∃ cl, clsOf (likeB m) = cl := ⟨_, rfl⟩
  rw [hcl] at HOF
  have HTS := Lib.hid (show ∀ s, rowS m s = (List.range (cntOf m)).map fun k => nextS m (s : Nat) (lowF cl 256 k) from fun s => by rw [← hcl]; rfl)
  have HTT := Lib.hid (show tabS m = (List.range m.length).map (rowS m) from rfl)
  have HLW := Lib.hid (fun (W : World) => rlows_any cl (cntOf m) W (by rw [← hcl]; exact cls_lt m) (by rw [← hcl]; exact cnt_mx m))
  have hcn := cntOf_le m
  clear hcl hv hl hm
  obtain ⟨I1, hI1⟩ : ∃ I1, U8s (fun _ => 0) = I1 := ⟨_, rfl⟩
  have HI1 := Lib.hid hI1
  have hz := zero_u8s
  rw [hI1] at hz
  clear hI1
  obtain ⟨n, hn⟩ : ∃ n, cntOf m = n := ⟨_, rfl⟩
  rw [hn] at HOF HTS HLW hcn
  clear hn
  obtain ⟨rs, hrs⟩ : ∃ rs, rowS m = rs := ⟨_, rfl⟩
  rw [hrs] at HTS HTT
  clear hrs
  obtain ⟨lf, hlf⟩ : ∃ lf, lowF cl 256 = lf := ⟨_, rfl⟩
  rw [hlf] at HTS HLW
  clear hlf
  have HB := Lib.hid hB
  rw [hB] at HOF ⊢
  go_enter Try.func14, Try.ntmps14
  go_upto_region 3 with (first
    | (go_at_call 9; (with_reducible refine HOF.out.mono ?_); rintro e w5 ⟨rfl, hb5⟩; have HB5 := Lib.hid hb5; obtain ⟨n5, hn5⟩ : ∃ n5, w5.heap.size = n5 := ⟨_, rfl⟩; have HN5 := Lib.hid hn5; have HC5 : Hid (UBlk (w5.alloc (.cells I1 24)) n5 fun _ => 0) := Lib.hid (by rw [← HI1.out, ← hn5]; exact UBlk.new w5 _); have HC6 := Lib.hid (HC5.out.setRow (g := cl)); have HLW6 := Lib.hid (HLW.out ((w5.alloc (.cells I1 24)).setRow n5 (U8s cl))); clear hb5)
    | (refine wpList_store_u8c n5 (fun _ => 0) cl HC5.out rfl _ _ rfl rfl rfl ?_)
    | (refine wpList_load_u8c n5 cl HC6.out rfl _ rfl rfl ?_)
    | (go_at_call 11; (with_reducible refine HLW6.out.mono ?_); rintro e w7 ⟨L, rfl, hL, HL7, HB7⟩))
  have hn5 := HN5.out
  have hb56 : Below n5 w5 ((w5.alloc (.cells I1 24)).setRow n5 (U8s cl)) := below_setRow ((Below.refl n5 w5).alloc (by omega) _) (Nat.le_refl n5) _
  have hb07 : Below B0 w w7 := HB5.out.trans ((hb56.trans (HB7.out.mono (by have := hb56.size; omega))).mono (by have := HB5.out.size; omega))
  have HB07 := Lib.hid hb07
  have hN7 : B0 ≤ w7.heap.size := by have := hb07.size; omega
  clear hb07 hb56 hn5 HC5 HC6 HLW6 HN5 HB5 HLW HOF hz HB7
  go_wp2
  go_loopw [6, 7, 8, 9] (fun u z _ _ wr => ∃ i : Nat, z = .int .i64 i ∧ i ≤ m.length ∧ B0 ≤ wr.heap.size ∧ Hid (∃ vs, Rows2 wr B0 u vs ((List.range i).map rs)) ∧ Hid (LBlk wr L n lf) ∧ Hid (Below B0 w wr)) (fun _ z _ _ _ => m.length - (intOf z).toNat)
  case atStart => exact ⟨0, rfl, Nat.zero_le _, hN7, Lib.hid ⟨[], Rows2.nil _ _⟩, HL7, HB07⟩
  case round =>
    clear HL7 HB07 hN7
    obtain ⟨i, rfl, hi, hNr, HR, HLR, HBW⟩ := hrel
    by_cases hlt : i < m.length
    · have hd : decide ((i : Int) < m.length) = true := decide_eq_true (by omega)
      obtain ⟨N2, hN2⟩ : ∃ N2, wr.heap.size = N2 := ⟨_, rfl⟩
      obtain ⟨w0, hw0⟩ : ∃ w0, wr = w0 := ⟨_, rfl⟩
      rw [hw0] at HR HLR HBW hNr hN2 ⊢
      clear hw0
      have hSN := range_snoc rs i
      rw [HTS.out i] at hSN
      have HSN := Lib.hid hSN
      obtain ⟨vs, hvs⟩ := HR.out
      have HV := Lib.hid hvs
      have hlen : ((List.range i).map rs).length = i := by simp
      have hown := hvs.own
      rw [hlen] at hown
      obtain ⟨a3, cp3, rfl⟩ := row_form hown
      clear hown hvs HR hSN
      obtain ⟨xs, hxs⟩ : ∃ xs, (List.range i).map rs = xs := ⟨_, rfl⟩
      rw [hxs] at HV HSN hlen
      clear hxs
      have HLEN := Lib.hid hlen
      have HN2 := Lib.hid hN2
      have hN2B : B0 ≤ N2 := by omega
      clear hlen hN2
      go_wp2
      go_loopw [8, 9] (fun y z ws => ∃ k : Nat, z = .int .i64 k ∧ k ≤ n ∧ N2 ≤ ws.heap.size ∧ Hid (ws.ownsRow N2 3 1 y k (numV ((List.range k).map fun k => nextS m (i : Nat) (lf k)))) ∧ Hid (Below N2 w0 ws)) (fun _ z _ => n - (intOf z).toNat)
      case atStart => exact ⟨0, rfl, Nat.zero_le _, by rw [HN2.out]; exact Nat.le_refl _, Lib.hid (World.ownsRow_nil _ _ _ _), Lib.hid (Below.refl _ _)⟩
      case round =>
        obtain ⟨k, rfl, hk, hNk, HY, HBK⟩ := hrel
        obtain ⟨a4, cp4, rfl⟩ := row_form HY.out
        have hbk : Below w0.heap.size w0 wr := by rw [HN2.out]; exact HBK.out
        by_cases hlk : k < n
        · have hd2 : decide ((k : Int) < n) = true := decide_eq_true (by omega)
          have hki : (k : Int) < n := by omega
          have c0 := (HLR.out.below hbk).cell hlk
          have HCK := Lib.hid (HNX.out wr (HBW.out.trans (hbk.mono hNr)) (i : Nat) (lf k))
          have HS2 := Lib.hid (range_snoc (fun k => nextS m (i : Nat) (lf k)) k)
          have HRA := Lib.hid (HY.out.alloc (.cells #[.int .i64 (nextS m (i : Nat) (lf k))] 3))
          obtain ⟨ys, hys⟩ : ∃ ys, ((List.range k).map fun k => nextS m (i : Nat) (lf k)) = ys := ⟨_, rfl⟩
          rw [hys] at HY HS2 HRA
          clear hys hbk
          generalize nextS m (i : Nat) (lf k) = x at *
          go_wp2_with (first
            | (go_at_call 32; (with_reducible refine HCK.out.mono ?_); rintro e w8 ⟨rfl, e8⟩; subst w8)
            | (at_builtin; refine wpList_append_lies _ rfl _ _ 44 rfl N2 3 i0 (.int .i64 0) 1 8 Try.underlying44 HI.out.1 HI.out.2.1 HI.out.2.2.1 HI.out.2.2.2 rfl (by decide) (.slice a4 k cp4) k (numV ys) rfl HRA.out ⟨wr.heap.size, 0, none⟩ 1 1 [.int .i64 x] rfl rfl (one_newsI (heap_alloc_new wr _)) (by simp [Value.oneCell']) (by omega) (by unfold maxLen; omega) (by omega) (by simp; omega) (wr.heap.size + 1) (by simp) ?_; intro g2 cap2 w8 h2 h3 h4 h5; have HP1 := Lib.hid (push3 HBK.out HY.out (Nat.le_refl N2) hNk ((Below.refl _ _).alloc (Nat.le_refl _) _) h3); have hsz8 := h3.size; have HP3 := Lib.hid h2; clear h2 h3 h4 h5))
          exact ⟨⟨k + 1, rfl, hlk, by simp at hsz8; omega, Lib.hid (by rw [HS2.out]; unfold numV at *; rw [List.map_append]; exact HP3.out), HP1⟩, by simp only [intOf]; omega⟩
        · obtain rfl : k = n := by omega
          have hd2 : decide ((k : Int) < k) = false := by simp
          have HV2 := Lib.hid (HV.out.below hbk)
          have HROW2 : Hid (wr.ownsRow B0 44 1 (.slice a3 i cp3) i vs) := Lib.hid (by have := HV2.out.own; rw [HLEN.out] at this; exact this)
          have HRA := Lib.hid (HROW2.out.alloc (.cells #[.slice a4 k cp4] 44))
          have HL2 := Lib.hid (HLR.out.below hbk)
          have HBW2 := Lib.hid (HBW.out.trans (hbk.mono hNr))
          have HU2 : Hid (wr.ownsRow B0 3 1 (.slice a4 k cp4) ((List.range k).map fun k => nextS m (i : Nat) (lf k)).length (numV ((List.range k).map fun k => nextS m (i : Nat) (lf k)))) := Lib.hid (by rw [List.length_map, List.length_range]; exact own_weak HY.out hN2B)
          have hNw : B0 ≤ wr.heap.size := Nat.le_trans hN2B hNk
          obtain ⟨ys, hys⟩ : ∃ ys, ((List.range k).map fun k => nextS m (i : Nat) (lf k)) = ys := ⟨_, rfl⟩
          rw [hys] at HU2 HSN
          clear hys hbk HY HV HLR
          go_wp2_with (at_builtin; refine wpList_append_lies _ rfl _ _ 31 rfl B0 44 i1 (.slice none 0 0) 1 24 Try.underlying31 HJ.out.1 HJ.out.2.1 HJ.out.2.2.1 HJ.out.2.2.2 rfl (by decide) (.slice a3 i cp3) i vs rfl HRA.out ⟨wr.heap.size, 0, none⟩ 1 1 [.slice a4 k cp4] rfl rfl (news_in (cs := #[.slice a4 k cp4]) (heap_alloc_new wr _)) (by simp [Value.oneCell']) (by omega) (by unfold maxLen; omega) (by omega) (by simp; omega) (wr.heap.size + 1) (by simp) ?_; intro g2 cap2 w8 h2 h3 h4 h5; have HP1 := Lib.hid (push3 HBW2.out HROW2.out (Nat.le_refl B0) hNw ((Below.refl _ _).alloc (Nat.le_refl _) _) h3); have hsz8 := h3.size; have HP4 := Lib.hid (lblk_push HL2.out HROW2.out ((Below.refl _ _).alloc (Nat.le_refl _) _) h3); have HP3 := Lib.hid (HV2.out.push HU2.out ((Below.refl _ _).alloc (Nat.le_refl _) _) h3 (by rw [HLEN.out]; exact h2)); clear h2 h3 h4 h5)
          exact ⟨⟨i + 1, rfl, hlt, by simp at hsz8; omega, Lib.hid ⟨_, by rw [HSN.out]; exact HP3.out⟩, HP4, HP1⟩, by simp only [intOf]; omega⟩
    · obtain rfl : i = m.length := by omega
      have hd : decide ((m.length : Int) < m.length) = false := by simp
      obtain ⟨vs, hvs⟩ := HR.out
      have HV := Lib.hid hvs
      clear hvs HR
      rw [← HTT.out] at HV
      go_wp2
      exact bodyPost_ret (v := u6) (by simp [results, Try.results14, go_sem, *]) rfl ⟨u6, vs, rfl, HV, HBW⟩
end Go.Proofs.Ytiikmpgadmmjeaa
