/- Texts that a proof rests on: The keys of the marks, sorted. | The contract of rising. | The contract of step. | The contracts of nfa.Close and nfa.Step. | The contract of appendNumber. | The keys by which a trip remembers its steps. | The contract of slices.Contains on ints. | A trip: what it remembers; newTrip. -/
import Derived.Test.YtpfhhdiipedklaaDoorK22
import Derived.Test.YtpfhhdiipedklaaDoorK23
import Derived.Shelf.SlIterI.Nil
import Derived.Shelf.SortM.Plain
import Derived.Shelf.SortM.SortNone
set_option maxRecDepth 100000
namespace Go.Proofs.YtpfhhdiipedklaaDoor
open Go.RowKit Go.Maps Go.Sort Go.Shelf

theorem sortsA (m : Nat) : AnyZI.SortsIn Tryd.prog Tryd.sortedA_ren Fence.wide m :=
  ⟨fun blk off cap ss W hH hblk hsz => callsIn_wide.2 (AnyM.slices_Sort_int Tryd.sortA blk off cap ss W hH hblk hsz),
   fun p cap W => callsIn_wide.2 (AnyM.slices_Sort_int_none Tryd.sortA p cap W)⟩
theorem keys_any (mb : Option Nat) (w : World) :
    Calls Tryd.prog 67 #[.map mb] w fun e w' => e = .returned (.func (.func 75) #[] #[ptr w.heap.size]) ∧ w' = w.alloc (.cells #[.map mb] 103) :=
  (callsIn_wide (n := 5)).1 (AnyZI.keys_in Tryd.keysA Fence.wide 5 trivial rfl mb w)
theorem keys_perm2 {es : Array MapEntry} {c : Nat} (hF : WideElems.Fit Tryd.prog 3 RW es c) (hk : ∀ x ∈ es.toList, ∃ k : Nat, k < 100000 ∧ x.key = .int .i64 k) :
    (intKeys (.map ((es.toList.map (WideElems.rg Tryd.prog 3 RW)).foldr DataW.insert []))).Perm (es.toList.map fun x => ((natOf x.key : Nat) : Int)) := by
  have h1 := (WideShapes.sorted_perm (es.toList.map (WideElems.rg Tryd.prog 3 RW))).map fun p => Go.intOf p.1
  rw [List.map_map] at h1
  refine h1.trans (List.Perm.of_eq ?_)
  refine List.map_congr_left fun x hx => ?_
  obtain ⟨y, hy⟩ := hF.reads x hx
  obtain ⟨k, hk1, hk2⟩ := hk x hx
  have h2 := WideElems.rd_key hy
  rw [hk2, Maps.keyOf_int_mk Tryd.underlying3 (in_i64 k (by omega))] at h2
  have h3 : WideElems.rg Tryd.prog 3 RW x = y := by unfold WideElems.rg; rw [hy]; rfl
  simp only [Function.comp, h3]
  rw [← Option.some.inj h2, hk2]
  simp [Go.intOf, natOf]
theorem keys_size {es : Array MapEntry} : Maps.size (DataW.map ((es.toList.map (WideElems.rg Tryd.prog 3 RW)).foldr DataW.insert [])) = es.size := by
  have h1 := (WideShapes.sorted_perm (es.toList.map (WideElems.rg Tryd.prog 3 RW))).length_eq
  rw [List.length_map] at h1
  simpa [Maps.size] using h1
set_option maxHeartbeats 1000000 in
theorem sorted_any (b : Nat) (S : Nat → Bool) (w : World) (h : MK w b S) :
    Calls Tryd.prog 66 #[.func (.func 75) #[] #[ptr w.heap.size]] (w.alloc (.cells #[.map (some b)] 103)) fun e w' => ∃ (v : Value) (ks : List Nat), e = .returned v ∧ Hid (IntsAt w' v (ks.map fun k : Nat => (k : Int))) ∧ Hid (ks.Pairwise (· < ·) ∧ (∀ s, S s = true → s / 64 ∈ ks) ∧ (∀ k ∈ ks, k < 100000) ∧ ks.length ≤ 100000) ∧ Hid (Below w.heap.size w w') := by
  obtain ⟨es, c, h1, h2, ⟨h3, hF⟩, h4⟩ := h.map
  have hbl := lt_of_block h1
  have hown : (w.alloc (.cells #[.map (some b)] 103)).ownsMap Tryd.prog 3 RW b es.size (.map ((es.toList.map (WideElems.rg Tryd.prog 3 RW)).foldr DataW.insert [])) :=
    ⟨es, c, (heap_alloc_old w _ hbl).trans h1, hF, Nat.le_refl _, rfl⟩
  have hseq : SeqGives Fence.wide 2 Tryd.prog 75 #[ptr w.heap.size] encZ (fun ss => ss.Perm (intKeys (.map ((es.toList.map (WideElems.rg Tryd.prog 3 RW)).foldr DataW.insert [])))) es.size (w.alloc (.cells #[.map (some b)] 103)) := by
    have := AnyZI.keys_gives (ρ := Tryd.keysA_ren) { Tryd.keysA with } Fence.wide 2 trivial rfl (by omega) w.heap.size b es.size _ (w.alloc (.cells #[.map (some b)] 103)) (by simp) ((cell_of_row _ _ 0 _ _ _ (heap_alloc_new w _)).trans rfl) hown
    rw [keys_size] at this
    exact this
  have hsz := keyd_len h2 h3
  have cS := AnyZI.sorted_in Tryd.sortedA Fence.wide 5 trivial trivial trivial trivial rfl (by omega) (sortsA _) (enters_of Tryd.func74 (by kernel_rfl) rfl) 75 #[ptr w.heap.size] trivial (enters_of Tryd.func75 (by kernel_rfl) rfl) _ es.size (by unfold maxLen; omega) (by omega) _ hseq
  refine ((callsIn_wide (n := 5)).1 cS).mono ?_
  rintro e w' ⟨v, ss, rfl, hS, hrow, hnil, hb⟩
  have hp := hS.trans (keys_perm2 hF h3)
  have hp2 := (List.mergeSort_perm ss (fun x y => decide (x ≤ y))).trans hp
  have hso := List.pairwise_mergeSort (le := fun x y : Int => decide (x ≤ y)) (fun a b c h1 h2 => by simp only [decide_eq_true_eq] at *; omega) (fun a b => by simp only [Bool.or_eq_true, decide_eq_true_eq]; omega) ss
  have hnd : (es.toList.map fun x => ((natOf x.key : Nat) : Int)).Nodup := by
    rw [List.Nodup, List.pairwise_map]
    have := h2.once
    rw [List.Nodup, List.pairwise_map] at this
    refine List.Pairwise.imp_of_mem ?_ this
    intro x y hx hy hne e
    obtain ⟨k, _, e1⟩ := h3 x hx
    obtain ⟨k', _, e2⟩ := h3 y hy
    rw [e1, e2] at hne e
    simp only [natOf, Int.toNat_natCast] at e
    exact hne (by rw [e])
  have hnd2 := hp2.nodup_iff.2 hnd
  have hlen := hp2.length_eq
  have hmem : ∀ z, z ∈ ss.mergeSort (fun x y => decide (x ≤ y)) → ∃ x ∈ es.toList, z = ((natOf x.key : Nat) : Int) := fun z hz => by
    obtain ⟨x, hx, e⟩ := List.mem_map.1 (hp2.mem_iff.1 hz)
    exact ⟨x, hx, e.symm⟩
  have hmem2 : ∀ x ∈ es.toList, ((natOf x.key : Nat) : Int) ∈ ss.mergeSort (fun x y => decide (x ≤ y)) := fun x hx => hp2.mem_iff.2 (List.mem_map.2 ⟨x, hx, rfl⟩)
  have hlen2 : (ss.mergeSort (fun x y => decide (x ≤ y))).length = es.size := by rw [hlen, List.length_map, Array.length_toList]
  clear hlen
  clear hS hp hp2 hnil
  generalize ss.mergeSort (fun x y => decide (x ≤ y)) = srt at *
  have hcast : (srt.map Int.toNat).map (fun k : Nat => (k : Int)) = srt := by
    rw [List.map_map]
    conv => rhs; rw [← List.map_id srt]
    refine List.map_congr_left fun z hz => ?_
    obtain ⟨x, _, rfl⟩ := hmem z hz
    simp
  refine ⟨v, srt.map Int.toNat, rfl, Lib.hid ?_, Lib.hid ⟨?_, ?_, ?_, ?_⟩, Lib.hid (((Below.refl _ w).alloc (Nat.le_refl _) _).trans (hb.mono (by simp)))⟩
  · rw [hcast]; exact IntsAt.row hrow
  · rw [List.pairwise_map]
    refine List.Pairwise.imp_of_mem ?_ (hso.and hnd2)
    rintro x y hx hy ⟨h5, h6⟩
    obtain ⟨x', _, rfl⟩ := hmem x hx
    obtain ⟨y', _, rfl⟩ := hmem y hy
    simp only [decide_eq_true_eq] at h5
    omega
  · intro s hs
    obtain ⟨m, h5, h6, h7⟩ := h4 (s / 64)
    have h8 := h7 (s % 64) (by omega)
    rw [show 64 * (s / 64) + s % 64 = s by omega, hs] at h8
    rcases h5 with ⟨x, hx, e1, _⟩ | ⟨_, e1⟩
    · have h9 := hmem2 x hx
      rw [e1] at h9
      exact List.mem_map.2 ⟨_, h9, by simp only [natOf, Int.toNat_natCast]⟩
    · have : m = 0 := by simpa using e1
      subst this; simp at h8
  · intro k hk
    obtain ⟨z, hz, rfl⟩ := List.mem_map.1 hk
    obtain ⟨x, hx, rfl⟩ := hmem z hz
    obtain ⟨k', hk', e1⟩ := h3 x hx
    rw [e1]; simpa [natOf] using hk'
  · rw [List.length_map]; omega
end Go.Proofs.YtpfhhdiipedklaaDoor
set_option maxRecDepth 100000
namespace Go.Proofs.YtpfhhdiipedklaaDoor
open Go.RowKit

theorem low_wrap (x : Nat) (hx : x < 2 ^ 64) (h0 : x ≠ 0) : bits .and .u64 (x : Int) (IntKind.u64.wrap ((x : Int) - 1)) = ((x &&& (x - 1) : Nat) : Int) := by
  have e : IntKind.u64.wrap ((x : Int) - 1) = ((x - 1 : Nat) : Int) := by
    rw [IntKind.wrap_u64]; omega
  rw [e, u64_and_nat _ _ hx (by omega)]
theorem low_plain (x : Nat) (hx : x < 2 ^ 64) (h0 : x ≠ 0) : bits .and .u64 (x : Int) ((x : Int) - 1) = ((x &&& (x - 1) : Nat) : Int) := by
  have e : (x : Int) - 1 = ((x - 1 : Nat) : Int) := by omega
  rw [e, u64_and_nat _ _ hx (by omega)]
theorem bitsTo_len (S : Nat → Bool) (k j : Nat) : (bitsTo S k j).length ≤ j := by
  unfold bitsTo
  rw [List.length_map]
  have := List.length_filter_le (fun i => S (64 * k + i)) (List.range j)
  rw [List.length_range] at this
  exact this
theorem bitsAll_len (S : Nat → Bool) : ∀ ks : List Nat, (bitsAll S ks).length ≤ 64 * ks.length
  | [] => by simp [bitsAll]
  | k :: ks => by
    have h1 : bitsAll S (k :: ks) = bitsTo S k 64 ++ bitsAll S ks := by simp [bitsAll]
    have h2 := bitsTo_len S k 64
    have h3 := bitsAll_len S ks
    rw [h1, List.length_append, List.length_cons]; omega
set_option linter.unusedSimpArgs false in
set_option maxHeartbeats 4000000 in
theorem rising_any (cnt : Nat) : Rises cnt := by
  intro b S w hT h hS
  obtain ⟨N, hN⟩ : ∃ N, w.heap.size = N := ⟨_, rfl⟩
  obtain ⟨es, c, hes, hkd, _, hwd⟩ := h.map
  have hbl := lt_of_block hes
  have HLK := Lib.hid (show ∀ k : Nat, ∃ m : Nat, m < 2 ^ 64 ∧ (∀ i, i < 64 → m.testBit i = S (64 * k + i)) ∧ ∀ W : World, W.heap[b]? = some (.map es c) → (Instr.lookup 103 (.map (some b)) (.int .i64 k) false).run Tryd.prog W = .ok (.int .u64 m) W from fun k => by
    obtain ⟨m, h1, h2, h3⟩ := hwd k
    refine ⟨m, h2, h3, fun W hW => ?_⟩
    obtain ⟨v, h4, h5⟩ := look_z (t := 103) (e := 31) Tryd.underlying103 (show (zeroValue 31).run Tryd.prog W = .ok (.int .u64 0) W by kernel_rfl) hW hkd k
    rw [IsZ.same hkd h1 h4]; exact h5)
  have HES := Lib.hid hes
  have HT := Lib.hid hT
  have hso := sorted_any b S w h
  rw [hN] at hso
  have HSO := Lib.hid hso
  clear hso
  have HN := Lib.hid hN
  obtain ⟨i0, hi0, hz0, hz1, hz2⟩ := info_parts infoI
  have HI := Lib.hid (And.intro hi0 (And.intro hz0 (And.intro hz1 hz2)))
  have HS := Lib.hid hS
  clear hi0 hz0 hz1 hz2 hes hkd hwd h hT hS
  unfold RiseP
  rw [hN] at hbl ⊢
  go_enter Tryd.func57, Tryd.ntmps57
  go_wp2_with (first
    | (go_at_call 67; refine (keys_any (some b) w).mono ?_; rintro e w' ⟨rfl, rfl⟩)
    | (go_at_call 66; refine HSO.out.mono ?_; rintro e w1 ⟨v, ks, rfl, hv, hks, hb1⟩; obtain ⟨a, cp, rfl, hc⟩ := hv.out; have HC := Lib.hid hc; clear hv hc))

  have hb1n := hb1.out.size
  rw [hN] at hb1n
  obtain ⟨M, hM⟩ : ∃ M, w1.heap.size = M := ⟨_, rfl⟩
  rw [hM] at hb1n
  have HM1 := Lib.hid hM
  have hkl2 := hks.out.2.2.2
  go_loopw [3, 11] (fun v3 x wr => ∃ k : Nat, x = .int .i64 k ∧ k ≤ ks.length ∧ Hid (wr.ownsRow M 3 1 v3 (bitsAll S (ks.take k)).length ((bitsAll S (ks.take k)).map fun x : Nat => Value.int .i64 (x : Int))) ∧ Hid (Below M w1 wr)) (fun _ x _ => ks.length - (intOf x).toNat)
  case atStart => exact ⟨0, rfl, Nat.zero_le _, Lib.hid (by simpa [bitsAll] using World.ownsRow_nil _ _ _ _), Lib.hid (Below.refl _ _)⟩
  case round =>
    obtain ⟨k, rfl, hkl, HR, HB1⟩ := hrel
    by_cases hlt : k < ks.length
    · have hdd : decide ((k : Int) < ks.length) = true := by simpa using hlt
      obtain ⟨bb, ob, rfl, hcc⟩ := HC.out k (by rw [List.length_map]; exact hlt)
      rw [List.getElem_map] at hcc
      have hc2 := cell_below (HM1.out ▸ HB1.out) hcc
      clear hcc
      obtain ⟨m, hm1, hm2, hlk⟩ := HLK.out ks[k]
      have hes1 := ((HB1.out.mono hb1n).block b hbl).trans ((hb1.out.block b (HN.out ▸ hbl)).trans HES.out)
      have hlk1 := hlk wr hes1
      have HM := Lib.hid hm2
      have HTK := Lib.hid (bitsAll_take (S := S) hlt)
      have hat : ks[k] < 100000 := hks.out.2.2.1 _ (List.getElem_mem hlt)
      have hln := bitsAll_len S (ks.take k)
      rw [List.length_take] at hln
      clear hlk hm2 hes1
      generalize ks[k] = at0 at *
      go_wp2
      clear hlk1 hc2 hdd
      go_loopw [3, 6] (fun v3 x wr2 => ∃ j r : Nat, x = .int .u64 r ∧ r < 2 ^ 64 ∧ j ≤ 64 ∧ Hid (∀ i, i < 64 → r.testBit i = (S (64 * at0 + i) && decide (j ≤ i))) ∧ Hid (wr2.ownsRow M 3 1 v3 (bitsAll S (ks.take k) ++ bitsTo S at0 j).length ((bitsAll S (ks.take k) ++ bitsTo S at0 j).map fun x : Nat => Value.int .i64 (x : Int))) ∧ Hid (Below M w1 wr2)) (fun _ x _ => (intOf x).toNat)
      case atStart => exact ⟨0, m, rfl, hm1, by omega, Lib.hid (fun i hi => by rw [HM.out i hi]; simp), Lib.hid (by simpa [bitsTo] using HR.out), HB1⟩
      clear HM hm1 HR HB1
      obtain ⟨j, r, rfl, hr1, hj, HBT, HR, HB1⟩ := hrel
      by_cases hr0 : r = 0
      · subst hr0
        have hnn : ((0 : Int) != 0) = false := rfl
        have HT64 : Hid (bitsTo S at0 64 = bitsTo S at0 j) := Lib.hid (bitsTo_none 64 hj fun i h1 h2 => by
          have := HBT.out i h2
          rw [Nat.zero_testBit] at this
          simpa [h1] using this.symm)
        go_wp2
        refine ⟨⟨k + 1, rfl, hlt, Lib.hid ?_, HB1⟩, by simp only [intOf]; omega⟩
        rw [HTK.out, HT64.out]; exact HR.out
      · have hnn : ((r : Int) != 0) = true := by
          have : (r : Int) ≠ 0 := by omega
          simpa using this
        obtain ⟨hc64, hb1c, hb2c, hb3c, hltc⟩ := low_bit r hr1 hr0
        have hlw := low_wrap r hr1 hr0
        have hlp := low_plain r hr1 hr0
        have HTZ := Lib.hid (tz_any r (by omega) hr0 wr (HT.out.below (HN.out ▸ hb1.out.trans ((HB1.out).mono hb1n))))
        have hlen2 := bitsTo_len S at0 j
        generalize r &&& (r - 1) = r2 at *
        generalize Lib.ctz 64 r = cz at *
        have hSc := HBT.out cz hc64
        rw [hb1c] at hSc
        have hjc : j ≤ cz := by
          rcases Nat.lt_or_ge cz j with h | h
          · have : ¬ j ≤ cz := by omega
            simp [this] at hSc
          · exact h
        have hSc2 : S (64 * at0 + cz) = true := by simpa [hjc] using hSc.symm
        have HNX := Lib.hid (bitsTo_next (S := S) (k := at0) hjc (fun i h1 h2 => by
          have h3 := HBT.out i (by omega)
          rw [hb2c i h2] at h3
          simpa [h1] using h3.symm) hSc2)
        have HBT2 : Hid (∀ i, i < 64 → r2.testBit i = (S (64 * at0 + i) && decide (cz + 1 ≤ i))) := Lib.hid fun i hi => by
          rw [hb3c i, HBT.out i hi]
          by_cases h1 : i = cz
          · subst h1; simp
          · by_cases h2 : i < cz
            · have h3 := hb2c i h2
              rw [HBT.out i hi] at h3
              have h4 : ¬ cz + 1 ≤ i := by omega
              simp only [h4, decide_false, Bool.and_false]
              rw [h3]; rfl
            · have h4 : cz + 1 ≤ i := by omega
              have h5 : j ≤ i := by omega
              simp [h1, h4, h5]
        clear hb1c hb2c hb3c hSc hSc2 HBT
        have HRA := Lib.hid (row_keep (w' := wr.alloc (.cells #[.int .i64 ((at0 : Int) * 64 + cz)] 3)) HR.out fun g cs _ h1 => (heap_alloc_old wr _ (lt_of_block h1)).trans h1)
        have hl2 : (bitsAll S (ks.take k) ++ bitsTo S at0 j).length ≤ 7000000 := by rw [List.length_append]; omega
        have hsz : M ≤ wr.heap.size := by have := HB1.out.size; have := HM1.out; omega
        go_wp2_with (first
          | (go_at_call 68; refine HTZ.out.mono ?_; rintro e w3 ⟨rfl, rfl⟩)
          | (at_builtin; refine wpList_append_lies _ rfl _ _ 22 rfl M 3 i0 (.int .i64 0) 1 8 Tryd.underlying22 HI.out.1 HI.out.2.1 HI.out.2.2.1 HI.out.2.2.2 rfl (by decide) u3 (bitsAll S (ks.take k) ++ bitsTo S at0 j).length ((bitsAll S (ks.take k) ++ bitsTo S at0 j).map fun x : Nat => Value.int .i64 (x : Int)) rfl HRA.out ⟨wr.heap.size, 0, none⟩ 1 1 [.int .i64 ((at0 : Int) * 64 + cz)] rfl rfl (news_in (cs := #[.int .i64 ((at0 : Int) * 64 + cz)]) (heap_alloc_new wr _)) (by simp [Value.oneCell']) (by omega) (by unfold maxLen; omega) (by omega) (by simp; omega) (wr.heap.size + 1) (by simp) ?_; intro g cap2 w8 h2 h3 h4 h5; have HB8 : Hid (Below M w1 w8) := Lib.hid ((HB1.out.trans ((new_one wr _).mono hsz)).grown h3 (by simp; omega) (fun k hk => (HRA.out.lt k hk).1)); have HR8 := Lib.hid h2; clear h2 h3 h4 h5))
        refine ⟨⟨cz + 1, r2, rfl, by omega, by omega, HBT2, Lib.hid ?_, HB8⟩, by simp only [intOf]; omega⟩
        have he : (at0 : Int) * 64 + cz = ((64 * at0 + cz : Nat) : Int) := by push_cast; omega
        have h8 := HR8.out
        rw [he] at h8
        rw [HNX.out, ← List.append_assoc, List.map_append, List.length_append (bs := [64 * at0 + cz]), ← List.length_append]
        exact h8
    · have hdd : decide ((k : Int) < ks.length) = false := by simpa using hlt
      obtain rfl : k = ks.length := by omega
      rw [List.take_length] at HR
      go_wp2
      refine bodyPost_ret (v := u3) (by simp [results, Tryd.results57, go_sem, *]) rfl ⟨u3, bitsAll S ks, rfl, Lib.hid ?_, Lib.hid ⟨bitsAll_sorted S ks hks.out.1, fun s => mem_bitsAll.trans ⟨And.right, fun h => ⟨hks.out.2.1 s h, h⟩⟩⟩, Lib.hid (HN.out ▸ hb1.out.trans (HB1.out.mono (HN.out ▸ hb1n)))⟩
      obtain ⟨h1, h2⟩ := HR.out
      refine ⟨h1, h2.imp_right ?_⟩
      rintro ⟨g, cap, cur, e1, e2, e3⟩
      exact ⟨g, cap, cur, e1, Nat.le_trans hb1n e2, e3⟩
/-- close, whole: the states that are reached, rising. -/
theorem close_full (cnt : Nat) (b1 b2 : Nat) (E : List (Nat × Nat)) (A : List (Nat × Nat × BitVec 256)) (v : Value) (L : List Int) (w : World) (hcnt : cnt ≤ 100000) (hEl : E.length < 100000) (hL : L.length < 100000000) (hv : IntsAt w v L) (hW : Walker w b1 b2 E A) (hT : Tab w) :
    Calls Tryd.prog 29 #[.agg #[.int .i64 cnt, .map (some b1), .map (some b2)], v] w fun e w' => ∃ (v' : Value) (l : List Nat), e = .returned v' ∧ Hid (w'.ownsRow w.heap.size 3 1 v' l.length (l.map fun x : Nat => Value.int .i64 (x : Int))) ∧ Hid (l.Pairwise (· < ·) ∧ ∀ s, s ∈ l ↔ Reach cnt E L s) ∧ Hid (Below w.heap.size w w') :=
  close_any cnt b1 b2 E A v L w hcnt hEl hL hv hW hT (Lib.hid (rising_any cnt))
end Go.Proofs.YtpfhhdiipedklaaDoor
set_option maxRecDepth 100000
namespace Go.Proofs.YtpfhhdiipedklaaDoor
open Go.RowKit

/-- A state's steps by bytes; where those by b lead. -/
def outs (A : List (Nat × Nat × BitVec 256)) (k : Int) : List (Nat × Nat × BitVec 256) := A.filter fun x => decide ((x.1 : Int) = k)
def tgtB (l : List (Nat × Nat × BitVec 256)) (b : Nat) : List Int := (l.filter fun x => x.2.2.getLsbD b).map fun x => (x.2.1 : Int)
def stepT (A : List (Nat × Nat × BitVec 256)) (b : Nat) (L : List Int) : List Int := L.flatMap fun k => tgtB (outs A k) b
theorem arcF_row (A : List (Nat × Nat × BitVec 256)) (k : Int) : (arcF A k).flatten = flA (outs A k) ∧ (arcF A k).length = (outs A k).length := by
  unfold arcF outs
  constructor
  · induction (A.filter fun x => decide ((x.1 : Int) = k)) with
    | nil => rfl
    | cons x xs ih => simp only [List.map_cons, List.flatten_cons, ih]; simp [flA]
  · simp
theorem tgtB_take {l : List (Nat × Nat × BitVec 256)} {b i : Nat} (h : i < l.length) : tgtB (l.take (i + 1)) b = tgtB (l.take i) b ++ (if l[i].2.2.getLsbD b = true then [(l[i].2.1 : Int)] else []) := by
  unfold tgtB
  rw [List.take_succ_eq_append_getElem h, List.filter_append, List.map_append]
  cases hb : l[i].2.2.getLsbD b <;> simp [hb]
theorem stepT_take {A : List (Nat × Nat × BitVec 256)} {b i : Nat} {L : List Int} (h : i < L.length) : stepT A b (L.take (i + 1)) = stepT A b (L.take i) ++ tgtB (outs A L[i]) b := by
  unfold stepT
  rw [List.take_succ_eq_append_getElem h, List.flatMap_append]; simp
theorem tgtB_len (l : List (Nat × Nat × BitVec 256)) (b : Nat) : (tgtB l b).length ≤ l.length := by
  unfold tgtB; rw [List.length_map]; exact List.length_filter_le _ _
theorem outs_len (A : List (Nat × Nat × BitVec 256)) (k : Int) : (outs A k).length ≤ A.length := List.length_filter_le _ _
theorem stepT_len (A : List (Nat × Nat × BitVec 256)) (b : Nat) : ∀ L : List Int, (stepT A b L).length ≤ L.length * A.length
  | [] => by simp [stepT]
  | k :: L => by
    have h1 : stepT A b (k :: L) = tgtB (outs A k) b ++ stepT A b L := by simp [stepT]
    have h2 := tgtB_len (outs A k) b
    have h3 := outs_len A k
    have h4 := stepT_len A b L
    rw [h1, List.length_append, List.length_cons, Nat.add_mul]; omega
set_option linter.unusedSimpArgs false in
set_option maxHeartbeats 4000000 in
theorem step_any (cnt : Nat) (b1 b2 : Nat) (E : List (Nat × Nat)) (A : List (Nat × Nat × BitVec 256)) (v : Value) (L : List Int) (b : Nat) (w : World) (hcnt : cnt ≤ 100000) (hEl : E.length < 100000) (hAl : A.length ≤ 20000) (hL : L.length ≤ 4999) (hb : b < 256) (hv : IntsAt w v L) (hW : Walker w b1 b2 E A) (hT : Tab w) :
    Calls Tryd.prog 31 #[.agg #[.int .i64 cnt, .map (some b1), .map (some b2)], v, .int .u8 b] w fun e w' => ∃ (v' : Value) (l : List Nat), e = .returned v' ∧ Hid (w'.ownsRow w.heap.size 3 1 v' l.length (l.map fun x : Nat => Value.int .i64 (x : Int))) ∧ Hid (l.Pairwise (· < ·) ∧ ∀ s, s ∈ l ↔ Reach cnt E (stepT A b L) s) ∧ Hid (Below w.heap.size w w') := by
  obtain ⟨N, hN⟩ : ∃ N, w.heap.size = N := ⟨_, rfl⟩
  obtain ⟨a, cp, rfl, hc⟩ := hv
  obtain ⟨w1, hw1⟩ : ∃ w1, w.alloc (.cells #[.int .i64 cnt, .map (some b1), .map (some b2)] 71) = w1 := ⟨_, rfl⟩
  have hb1 : Below N w w1 := by rw [← hw1, ← hN]; exact new_one w _
  have hx1 : w1.heap[N]? = some (.cells #[.int .i64 cnt, .map (some b1), .map (some b2)] 71 (0, 0)) := by rw [← hw1, ← hN]; exact heap_alloc_new w _
  have hs1 : w1.heap.size = N + 1 := by rw [← hw1]; simp [hN]
  obtain ⟨B, es, cc, hes, hkd, hro⟩ := (show ∃ B es c, w.heap[b2]? = some (.map es c) ∧ Keyd es ∧ (∀ k, ∃ v, IsAt es k v ∧ w.ownsRow B 78 6 v (arcF A k).length (arcF A k).flatten) from by obtain ⟨B, hG⟩ := hW.a; obtain ⟨es, c, h1, h2, h3, _⟩ := hG.map; exact ⟨B, es, c, h1, h2, h3⟩)
  have hlt1 := lt_of_block hes
  rw [hN] at hlt1
  have HRO := Lib.hid (show ∀ k : Int, ∃ v, RowA w v (outs A k) ∧ ∀ W : World, W.heap[b2]? = some (.map es cc) → (Instr.lookup 69 (.map (some b2)) (.int .i64 k) false).run Tryd.prog W = .ok v W from fun k => by
    obtain ⟨v, h1, h2⟩ := hro k
    obtain ⟨h3, h4⟩ := arcF_row A k
    rw [h3, h4] at h2
    exact ⟨v, ⟨B, h2⟩, fun W hW => look_fix Tryd.underlying69 zero_arcs hkd h1 hW⟩)
  obtain ⟨i0, hi0, hz0, hz1, hz2⟩ := info_parts infoI
  have HI := Lib.hid (And.intro hi0 (And.intro hz0 (And.intro hz1 hz2)))
  have HC := Lib.hid hc
  have HES := Lib.hid hes
  have HB1 := Lib.hid hb1
  have HX1 := Lib.hid hx1
  have HW := Lib.hid hW
  have HT := Lib.hid hT
  have HN := Lib.hid hN
  have HS1 := Lib.hid hs1
  clear hi0 hz0 hz1 hz2 hes hkd hro hc hb1 hx1 hW hT hs1
  rw [hN]
  go_enter Tryd.func31, Tryd.ntmps31
  go_upto_region 1 with fail
  clear hw1
  go_wp2
  go_loopw [7, 14] (fun v7 x wr => ∃ k : Nat, x = .int .i64 k ∧ k ≤ L.length ∧ Hid (wr.ownsRow (N + 1) 3 1 v7 (stepT A b (L.take k)).length ((stepT A b (L.take k)).map fun x => .int .i64 x)) ∧ Hid (Below (N + 1) w1 wr)) (fun _ x _ => L.length - (intOf x).toNat)
  case atStart => exact ⟨0, rfl, Nat.zero_le _, Lib.hid (by simpa [stepT] using World.ownsRow_nil _ _ _ _), Lib.hid (Below.refl _ _)⟩
  case round =>
    obtain ⟨k, rfl, hkl, HR, HB⟩ := hrel
    have hsz : N + 1 ≤ wr.heap.size := by have := HB.out.size; have := HS1.out; omega
    by_cases hlt : k < L.length
    · have hdd : decide ((k : Int) < L.length) = true := by simpa using hlt
      obtain ⟨bb, ob, rfl, hcc⟩ := HC.out k hlt
      have hbw : Below N w wr := HB1.out.trans (HB.out.mono (by omega))
      have hc2 := cell_below (HN.out ▸ hbw) hcc
      have x0 : wr.cell? ⟨N, 2, none⟩ = some (.map (some b2)) := (cell_of_row wr N 2 _ _ _ ((HB.out.block N (by omega)).trans HX1.out)).trans rfl
      obtain ⟨va, hva, hlk⟩ := HRO.out L[k]
      obtain ⟨aa, ac, rfl⟩ := hva.form
      have hlk1 := hlk wr ((hbw.block b2 hlt1).trans HES.out)
      have HTK := Lib.hid (stepT_take (A := A) (b := b) hlt)
      have HVA := Lib.hid hva
      have hln := stepT_len A b (L.take k)
      rw [List.length_take] at hln
      have hmu : min k L.length * A.length ≤ 5000 * 20000 := Nat.mul_le_mul (by omega) hAl
      have hol := outs_len A L[k]
      clear hlk hva hbw hcc
      generalize L[k] = x0k at *
      generalize outs A x0k = O at *
      go_wp2
      clear hlk1 hc2 hdd x0
      go_loopw [7, 23] (fun v7 x wr2 => ∃ i : Nat, x = .int .i64 i ∧ i ≤ O.length ∧ Hid (wr2.ownsRow (N + 1) 3 1 v7 (stepT A b (L.take k) ++ tgtB (O.take i) b).length ((stepT A b (L.take k) ++ tgtB (O.take i) b).map fun x => .int .i64 x)) ∧ Hid (Below (N + 1) w1 wr2)) (fun _ x _ => O.length - (intOf x).toNat)
      case atStart => exact ⟨0, rfl, Nat.zero_le _, Lib.hid (by simpa [tgtB] using HR.out), HB⟩
      clear HR HB hsz
      obtain ⟨i, rfl, hil, HR, HB⟩ := hrel
      have hsz : N + 1 ≤ wr.heap.size := by have := HB.out.size; have := HS1.out; omega
      by_cases hlt2 : i < O.length
      · have hdd2 : decide ((i : Int) < O.length) = true := by simpa using hlt2
        have hbw : Below N w wr := HB1.out.trans (HB.out.mono (by omega))
        obtain ⟨ab, ac2, e, ha⟩ := (HVA.out.below (HN.out ▸ hbw)).at hlt2
        cases e
        have a0 := ha 0 _ (by omega) rfl
        have a1 := ha 1 _ (by omega) rfl
        have a2 := ha 2 _ (by omega) rfl
        have a3 := ha 3 _ (by omega) rfl
        have a4 := ha 4 _ (by omega) rfl
        have a5 := ha 5 _ (by omega) rfl
        have HTK2 := Lib.hid (tgtB_take (b := b) hlt2)
        have hl3 := tgtB_len (O.take i) b
        rw [List.length_take] at hl3
        have hl2 : (stepT A b (L.take k) ++ tgtB (O.take i) b).length ≤ 120000000 := by rw [List.length_append]; omega
        clear ha hbw
        rw [Nat.add_zero] at a0
        generalize O[i].1 = x at *
        generalize O[i].2.1 = y at *
        generalize O[i].2.2 = c at *
        obtain ⟨g, hg⟩ : ∃ g, wr.heap.size = g := ⟨_, rfl⟩
        obtain ⟨w5, hw5⟩ : ∃ w5, wr.alloc (.cells #[.int .i64 x, .int .i64 y, .int .u64 (wd c 0), .int .u64 (wd c 1), .int .u64 (wd c 2), .int .u64 (wd c 3)] 78) = w5 := ⟨_, rfl⟩
        have hb5 : Below wr.heap.size wr w5 := by rw [← hw5]; exact new_one wr _
        have hx5 : w5.heap[g]? = some (.cells #[.int .i64 x, .int .i64 y, .int .u64 (wd c 0), .int .u64 (wd c 1), .int .u64 (wd c 2), .int .u64 (wd c 3)] 78 (0, 0)) := by rw [← hw5, ← hg]; exact heap_alloc_new wr _
        have hs5 : w5.heap.size = g + 1 := by rw [← hw5]; simp [hg]
        have HB5 : Hid (Below (N + 1) w1 w5) := Lib.hid (HB.out.trans (hb5.mono hsz))
        have HR5 := Lib.hid (row_keep (w' := w5) HR.out fun g2 cs _ h1 => (hb5.block _ (lt_of_block h1)).trans h1)
        have d0 : w5.cell? ⟨g, 2, none⟩ = some (.int .u64 (wd c 0)) := (cell_of_row w5 g 2 _ _ _ hx5).trans rfl
        have d1 : w5.cell? ⟨g, 3, none⟩ = some (.int .u64 (wd c 1)) := (cell_of_row w5 g 3 _ _ _ hx5).trans rfl
        have d2 : w5.cell? ⟨g, 4, none⟩ = some (.int .u64 (wd c 2)) := (cell_of_row w5 g 4 _ _ _ hx5).trans rfl
        have d3 : w5.cell? ⟨g, 5, none⟩ = some (.int .u64 (wd c 3)) := (cell_of_row w5 g 5 _ _ _ hx5).trans rfl
        have d4 : w5.cell? ⟨g, 1, none⟩ = some (.int .i64 y) := (cell_of_row w5 g 1 _ _ _ hx5).trans rfl
        have HHS := Lib.hid (has_any c b hb w5)
        rw [hg] at hsz hb5
        clear hb5 hx5
        cases hcb : c.getLsbD b with
        | false =>
          rw [hcb] at HHS HTK2
          clear hcb
          go_wp2_with (go_at_call 58; refine HHS.out.mono ?_; rintro e w6 ⟨rfl, hb6⟩)
          refine ⟨⟨i + 1, rfl, hlt2, Lib.hid ?_, Lib.hid (HB5.out.trans (hb6.mono (by omega)))⟩, by simp only [intOf]; omega⟩
          have h9 := HTK2.out
          simp only [Bool.false_eq_true, if_false, List.append_nil] at h9
          rw [h9]
          exact row_keep HR5.out fun g2 cs _ h1 => (hb6.block _ (lt_of_block h1)).trans h1
        | true =>
          rw [hcb] at HHS HTK2
          clear hcb
          go_wp2_with (first
            | (go_at_call 58; refine HHS.out.mono ?_; rintro e w6 ⟨rfl, hb6⟩; have HB6 : Hid (Below (N + 1) w1 w6) := Lib.hid (HB5.out.trans (hb6.mono (by omega))); have e4 := cell_below hb6 d4; have HR6 := Lib.hid (row_keep (w' := w6.alloc (.cells #[.int .i64 y] 3)) HR5.out fun g2 cs _ h1 => (heap_alloc_old w6 _ (Nat.lt_of_lt_of_le (lt_of_block h1) hb6.size)).trans ((hb6.block _ (lt_of_block h1)).trans h1)); have hs6 : N + 1 ≤ w6.heap.size := by have := hb6.size; omega)
            | (at_builtin; refine wpList_append_lies _ rfl _ _ 22 rfl (N + 1) 3 i0 (.int .i64 0) 1 8 Tryd.underlying22 HI.out.1 HI.out.2.1 HI.out.2.2.1 HI.out.2.2.2 rfl (by decide) u7 (stepT A b (L.take k) ++ tgtB (O.take i) b).length ((stepT A b (L.take k) ++ tgtB (O.take i) b).map fun x => .int .i64 x) rfl HR6.out ⟨w6.heap.size, 0, none⟩ 1 1 [.int .i64 y] rfl rfl (news_in (cs := #[.int .i64 y]) (heap_alloc_new w6 _)) (by simp [Value.oneCell']) (by omega) (by unfold maxLen; omega) (by omega) (by simp; omega) (w6.heap.size + 1) (by simp) ?_; intro g9 cap2 w8 h2 h3 h4 h5; have HB8 : Hid (Below (N + 1) w1 w8) := Lib.hid ((HB6.out.trans ((new_one w6 _).mono hs6)).grown h3 (by simp; omega) (fun k hk => (HR6.out.lt k hk).1)); have HR8 := Lib.hid h2; clear h2 h3 h4 h5))
          refine ⟨⟨i + 1, rfl, hlt2, Lib.hid ?_, HB8⟩, by simp only [intOf]; omega⟩
          have h9 := HTK2.out
          simp only [if_true] at h9
          rw [h9, ← List.append_assoc, List.map_append, List.length_append (bs := [(y : Int)]), ← List.length_append]
          exact HR8.out
      · have hdd2 : decide ((i : Int) < O.length) = false := by simpa using hlt2
        obtain rfl : i = O.length := by omega
        rw [List.take_length] at HR
        go_wp2
        refine ⟨⟨k + 1, rfl, hlt, Lib.hid ?_, HB⟩, by simp only [intOf]; omega⟩
        rw [HTK.out]; exact HR.out
    · have hdd : decide ((k : Int) < L.length) = false := by simpa using hlt
      obtain rfl : k = L.length := by omega
      rw [List.take_length] at HR
      have e0 : wr.cell? ⟨N, 0, none⟩ = some (.int .i64 cnt) := (cell_of_row wr N 0 _ _ _ ((HB.out.block N (by omega)).trans HX1.out)).trans rfl
      have e1 : wr.cell? ⟨N, 1, none⟩ = some (.map (some b1)) := (cell_of_row wr N 1 _ _ _ ((HB.out.block N (by omega)).trans HX1.out)).trans rfl
      have e2 : wr.cell? ⟨N, 2, none⟩ = some (.map (some b2)) := (cell_of_row wr N 2 _ _ _ ((HB.out.block N (by omega)).trans HX1.out)).trans rfl
      have hbw : Below N w wr := HB1.out.trans (HB.out.mono (by omega))
      have hln := stepT_len A b L
      have hmu : L.length * A.length ≤ 4999 * 20000 := Nat.mul_le_mul hL hAl
      have HCL := Lib.hid (close_full cnt b1 b2 E A u7 (stepT A b L) wr hcnt hEl (by omega) (IntsAt.row HR.out) (HW.out.below (HN.out ▸ hbw)) (HT.out.below (HN.out ▸ hbw)))
      have HBW := Lib.hid hbw
      clear hbw
      go_wp2_with (go_at_call 29; refine HCL.out.mono ?_; rintro e w9 ⟨v', l, rfl, hr, hl, hb9⟩)
      go_ret
      refine ⟨v', l, rfl, Lib.hid ?_, hl, Lib.hid (HBW.out.trans (hb9.out.mono (by omega)))⟩
      obtain ⟨h1, h2⟩ := hr.out
      refine ⟨h1, h2.imp_right ?_⟩
      rintro ⟨g, cap, cur, e1, e2, e3⟩
      exact ⟨g, cap, cur, e1, by omega, e3⟩
end Go.Proofs.YtpfhhdiipedklaaDoor
set_option maxRecDepth 100000
namespace Go.Proofs.YtpfhhdiipedklaaDoor
open Go.RowKit

/-- States in a row of their own, rising: just those that P tells. -/
def StatesP (P : Nat → Prop) (w : World) (e : Ending) (w' : World) : Prop :=
  ∃ (v : Value) (l : List Nat), e = .returned v ∧ Hid (w'.ownsRow w.heap.size 3 1 v l.length (l.map fun x : Nat => Value.int .i64 (x : Int))) ∧ Hid (l.Pairwise (· < ·) ∧ ∀ s, s ∈ l ↔ P s) ∧ Hid (Below w.heap.size w w')
theorem StatesP.back {P : Nat → Prop} {w w' : World} {e : Ending} {w'' : World} (h : StatesP P w' e w'') (hb : Below w.heap.size w w') : StatesP P w e w'' := by
  obtain ⟨v, l, rfl, hr, hl, h9⟩ := h
  refine ⟨v, l, rfl, Lib.hid ?_, hl, Lib.hid (hb.trans (h9.out.mono hb.size))⟩
  obtain ⟨h1, h2⟩ := hr.out
  refine ⟨h1, h2.imp_right ?_⟩
  rintro ⟨g, cap, cur, e1, e2, e3⟩
  exact ⟨g, cap, cur, e1, Nat.le_trans hb.size e2, e3⟩
set_option maxHeartbeats 2000000 in
theorem nclose_any (cnt : Nat) (E : List (Nat × Nat)) (A : List (Nat × Nat × BitVec 256)) (ve va v : Value) (L : List Int) (w : World) (hcnt : cnt ≤ 100000) (hE : RowE w ve E) (hA : RowA w va A) (hle : E.length ≤ 20000) (hla : A.length ≤ 20000) (hL : L.length < 100000000) (hv : IntsAt w v L) (hT : Tab w) :
    Calls Tryd.prog 11 #[.agg #[.int .i64 cnt, ve, va, .int .i64 0, .int .i64 1], v] w (StatesP (Reach cnt E L) w) := by
  obtain ⟨ae, ce, rfl⟩ := hE.form
  obtain ⟨aa, ca, rfl⟩ := hA.form
  have hb0 := new_one w (.cells #[.int .i64 cnt, .slice ae E.length ce, .slice aa A.length ca, .int .i64 0, .int .i64 1] 27)
  have HNW := Lib.hid (newWalker_any cnt E A _ _ _ (hE.below hb0) (hA.below hb0) hle hla)
  have HV := Lib.hid (hv.below hb0)
  have HT := Lib.hid (hT.below hb0)
  have HB0 := Lib.hid hb0
  obtain ⟨a, cp, rfl, _⟩ := hv
  clear hE hA hT hb0
  go_enter Tryd.func11, Tryd.ntmps11
  go_wp2_with (first
    | (go_at_call 28; refine HNW.out.mono ?_; rintro e w1 ⟨b1, b2, rfl, hW, hb1⟩; have HCL := Lib.hid (close_full cnt b1 b2 E A _ L w1 hcnt (by omega) hL (HV.out.below hb1.out) hW.out (HT.out.below hb1.out)))
    | (go_at_call 29; refine HCL.out.mono ?_; rintro e w2 ⟨v', l, rfl, hr, hl, hb2⟩))
  go_ret
  exact (StatesP.back ⟨v', l, rfl, hr, hl, hb2⟩ hb1.out).back HB0.out
set_option maxHeartbeats 2000000 in
theorem nstep_any (cnt : Nat) (E : List (Nat × Nat)) (A : List (Nat × Nat × BitVec 256)) (ve va v : Value) (L : List Int) (b : Nat) (w : World) (hcnt : cnt ≤ 100000) (hE : RowE w ve E) (hA : RowA w va A) (hle : E.length ≤ 20000) (hla : A.length ≤ 20000) (hL : L.length ≤ 4999) (hb : b < 256) (hv : IntsAt w v L) (hT : Tab w) :
    Calls Tryd.prog 14 #[.agg #[.int .i64 cnt, ve, va, .int .i64 0, .int .i64 1], v, .int .u8 b] w (StatesP (Reach cnt E (stepT A b L)) w) := by
  obtain ⟨ae, ce, rfl⟩ := hE.form
  obtain ⟨aa, ca, rfl⟩ := hA.form
  have hb0 := new_one w (.cells #[.int .i64 cnt, .slice ae E.length ce, .slice aa A.length ca, .int .i64 0, .int .i64 1] 27)
  have HNW := Lib.hid (newWalker_any cnt E A _ _ _ (hE.below hb0) (hA.below hb0) hle hla)
  have HV := Lib.hid (hv.below hb0)
  have HT := Lib.hid (hT.below hb0)
  have HB0 := Lib.hid hb0
  obtain ⟨a, cp, rfl, _⟩ := hv
  clear hE hA hT hb0
  go_enter Tryd.func14, Tryd.ntmps14
  go_wp2_with (first
    | (go_at_call 28; refine HNW.out.mono ?_; rintro e w1 ⟨b1, b2, rfl, hW, hb1⟩; have HCL := Lib.hid (step_any cnt b1 b2 E A _ L b w1 hcnt (by omega) hla hL hb (HV.out.below hb1.out) hW.out (HT.out.below hb1.out)))
    | (go_at_call 31; refine HCL.out.mono ?_; rintro e w2 ⟨v', l, rfl, hr, hl, hb2⟩))
  go_ret
  exact (StatesP.back ⟨v', l, rfl, hr, hl, hb2⟩ hb1.out).back HB0.out
end Go.Proofs.YtpfhhdiipedklaaDoor
set_option maxRecDepth 100000
namespace Go.Proofs.YtpfhhdiipedklaaDoor
open Go.RowKit

/-- A number's bytes: seven bits each, the last below 128. -/
def encN (n : Nat) : List Nat := if n < 128 then [n] else (n % 128 + 128) :: encN (n / 128)
decreasing_by omega
theorem encN_small {n : Nat} (h : n < 128) : encN n = [n] := by rw [encN, if_pos h]
theorem encN_great {n : Nat} (h : ¬ n < 128) : encN n = (n % 128 + 128) :: encN (n / 128) := by rw [encN, if_neg h]
theorem infoU : (Tryd.prog.info? 5).map (fun i => (i.zero, i.size, i.bytes)) = some (some (.int .u8 0), 1, 1) := by kernel_rfl
/-- Bytes as a row's cells. -/
def u8s (l : List Nat) : List Value := l.map fun x : Nat => Value.int .u8 (x : Int)
set_option linter.unusedSimpArgs false in
set_option maxHeartbeats 4000000 in
theorem appendNumber_any (B : Nat) (v : Value) (xs : List Nat) (n : Nat) (w : World) (hn : n < 1000000) (hl : xs.length < 100000000) (hB : B ≤ w.heap.size) (hv : w.ownsRow B 5 1 v xs.length (u8s xs)) :
    Calls Tryd.prog 59 #[v, .int .i64 n] w fun e w' => ∃ v', e = .returned v' ∧ Hid (w'.ownsRow B 5 1 v' (xs ++ encN n).length (u8s (xs ++ encN n))) ∧ Hid (w.grownBy w' v.ownBlock) ∧ Hid (∀ j, v'.ownBlock = some j → w.heap.size ≤ j ∨ v.ownBlock = some j) := by
  obtain ⟨i0, hi0, hz0, hz1, hz2⟩ := info_parts infoU
  have HI := Lib.hid (And.intro hi0 (And.intro hz0 (And.intro hz1 hz2)))
  have HV := Lib.hid hv
  clear hi0 hz0 hz1 hz2 hv
  go_enter Tryd.func59, Tryd.ntmps59
  go_wp2
  go_loopw [0, 1] (fun v0 x wr => ∃ (m : Nat) (ys : List Nat), x = .int .i64 m ∧ m ≤ n ∧ ys.length + m ≤ xs.length + n ∧ Hid (ys ++ encN m = xs ++ encN n) ∧ Hid (wr.ownsRow B 5 1 v0 ys.length (u8s ys)) ∧ Hid (w.grownBy wr v.ownBlock) ∧ Hid (∀ j, v0.ownBlock = some j → w.heap.size ≤ j ∨ v.ownBlock = some j)) (fun _ x _ => (intOf x).toNat)
  case atStart => exact ⟨n, xs, rfl, Nat.le_refl _, Nat.le_refl _, Lib.hid rfl, HV, Lib.hid ⟨rfl, rfl, rfl, Nat.le_refl _, fun _ _ _ => rfl⟩, Lib.hid (fun j h => .inr h)⟩
  case round =>
    obtain ⟨m, ys, rfl, hmn, hle, HE, HR, HG, HO⟩ := hrel
    have hsz := HG.out.size
    by_cases hm : m < 128
    · have hdd : decide ((128 : Int) ≤ m) = false := by simp; omega
      have HE2 := Lib.hid (encN_small hm)
      have HRA := Lib.hid (row_keep (w' := wr.alloc (.cells #[.int .u8 ((m : Int))] 5)) HR.out fun g cs _ h1 => (heap_alloc_old wr _ (lt_of_block h1)).trans h1)
      go_wp2_with (at_builtin; refine wpList_append_lies _ rfl _ _ 67 rfl B 5 i0 (.int .u8 0) 1 1 Tryd.underlying67 HI.out.1 HI.out.2.1 HI.out.2.2.1 HI.out.2.2.2 rfl (by decide) u0 ys.length (u8s ys) rfl HRA.out ⟨wr.heap.size, 0, none⟩ 1 1 [.int .u8 ((m : Int))] rfl rfl (news_in (cs := #[.int .u8 ((m : Int))]) (heap_alloc_new wr _)) (by simp [Value.oneCell']) (by omega) (by unfold maxLen; omega) (by omega) (by simp; omega) (wr.heap.size + 1) (by simp) ?_; intro g cap2 w8 h2 h3 h4 h5; have HG8 : Hid (w.grownBy w8 v.ownBlock) := Lib.hid ((HG.out.andThen (World.grownBy_alloc wr _ none) (by simp)).andThen h3 HO.out); have HO8 : Hid (∀ j, (Value.slice (some ⟨g, 0, none⟩) (ys.length + 1) cap2).ownBlock = some j → w.heap.size ≤ j ∨ v.ownBlock = some j) := Lib.hid (fun j hj => by
          obtain rfl : g = j := by simpa [Value.ownBlock] using hj
          rcases h4 with h | h
          · exact HO.out g h
          · exact .inl (by omega)); have HR8 := Lib.hid h2; clear h2 h3 h4 h5)
      go_ret
      have h9 := HE.out
      rw [HE2.out] at h9
      refine ⟨_, rfl, Lib.hid ?_, HG8, HO8⟩
      rw [← h9, List.length_append]
      simpa [u8s] using HR8.out
    · have hdd : decide ((128 : Int) ≤ m) = true := by simp; omega
      have HE2 := Lib.hid (encN_great hm)
      have HRA := Lib.hid (row_keep (w' := wr.alloc (.cells #[.int .u8 ((m : Int) % 128 + 128)] 5)) HR.out fun g cs _ h1 => (heap_alloc_old wr _ (lt_of_block h1)).trans h1)
      go_wp2_with (at_builtin; refine wpList_append_lies _ rfl _ _ 67 rfl B 5 i0 (.int .u8 0) 1 1 Tryd.underlying67 HI.out.1 HI.out.2.1 HI.out.2.2.1 HI.out.2.2.2 rfl (by decide) u0 ys.length (u8s ys) rfl HRA.out ⟨wr.heap.size, 0, none⟩ 1 1 [.int .u8 ((m : Int) % 128 + 128)] rfl rfl (news_in (cs := #[.int .u8 ((m : Int) % 128 + 128)]) (heap_alloc_new wr _)) (by simp [Value.oneCell']) (by omega) (by unfold maxLen; omega) (by omega) (by simp; omega) (wr.heap.size + 1) (by simp) ?_; intro g cap2 w8 h2 h3 h4 h5; have HG8 : Hid (w.grownBy w8 v.ownBlock) := Lib.hid ((HG.out.andThen (World.grownBy_alloc wr _ none) (by simp)).andThen h3 HO.out); have HO8 : Hid (∀ j, (Value.slice (some ⟨g, 0, none⟩) (ys.length + 1) cap2).ownBlock = some j → w.heap.size ≤ j ∨ v.ownBlock = some j) := Lib.hid (fun j hj => by
          obtain rfl : g = j := by simpa [Value.ownBlock] using hj
          rcases h4 with h | h
          · exact HO.out g h
          · exact .inl (by omega)); have HR8 := Lib.hid h2; clear h2 h3 h4 h5)
      have hdv : (m : Int) / 128 = ((m / 128 : Nat) : Int) := by omega
      refine ⟨⟨m / 128, ys ++ [m % 128 + 128], by rw [hdv], by omega, by simp only [List.length_append, List.length_singleton]; omega, Lib.hid ?_, Lib.hid ?_, HG8, HO8⟩, by simp only [intOf]; omega⟩
      · rw [← HE.out, HE2.out]; simp
      · rw [List.length_append]
        simpa [u8s] using HR8.out
end Go.Proofs.YtpfhhdiipedklaaDoor
set_option maxRecDepth 100000
namespace Go.Proofs.YtpfhhdiipedklaaDoor
open Go.RowKit

theorem encN_inj : ∀ (k n m : Nat) (xs ys : List Nat), n ≤ k → encN n ++ xs = encN m ++ ys → n = m ∧ xs = ys := by
  intro k
  induction k with
  | zero =>
    intro n m xs ys hn h
    have : n = 0 := by omega
    subst this
    rw [encN_small (by omega)] at h
    by_cases hm : m < 128
    · rw [encN_small hm] at h
      simp only [List.cons_append, List.nil_append, List.cons.injEq] at h
      exact h
    · rw [encN_great hm] at h
      simp only [List.cons_append, List.nil_append, List.cons.injEq] at h
      omega
  | succ k ih =>
    intro n m xs ys hn h
    by_cases hn1 : n < 128 <;> by_cases hm : m < 128
    · rw [encN_small hn1, encN_small hm] at h
      simp only [List.cons_append, List.nil_append, List.cons.injEq] at h
      exact h
    · rw [encN_small hn1, encN_great hm] at h
      simp only [List.cons_append, List.nil_append, List.cons.injEq] at h
      omega
    · rw [encN_great hn1, encN_small hm] at h
      simp only [List.cons_append, List.nil_append, List.cons.injEq] at h
      omega
    · rw [encN_great hn1, encN_great hm] at h
      simp only [List.cons_append, List.cons.injEq] at h
      have h2 := ih (n / 128) (m / 128) xs ys (by omega) h.2
      exact ⟨by omega, h2.2⟩
theorem encN_pos (n : Nat) : 0 < (encN n).length := by
  by_cases h : n < 128
  · rw [encN_small h]; simp
  · rw [encN_great h]; simp
theorem encN_len (n : Nat) (h : n < 2000000) : (encN n).length ≤ 3 := by
  by_cases h1 : n < 128
  · rw [encN_small h1]; simp
  · rw [encN_great h1]
    by_cases h2 : n / 128 < 128
    · rw [encN_small h2]; simp
    · rw [encN_great h2, encN_small (by omega)]; simp
theorem encN_byte : ∀ (k n : Nat), n ≤ k → ∀ x ∈ encN n, x < 256 := by
  intro k
  induction k with
  | zero => intro n hn x hx; rw [encN_small (by omega)] at hx; simp at hx; omega
  | succ k ih =>
    intro n hn x hx
    by_cases h1 : n < 128
    · rw [encN_small h1] at hx; simp at hx; omega
    · rw [encN_great h1] at hx
      rcases List.mem_cons.1 hx with rfl | hx
      · omega
      · exact ih _ (by omega) x hx
/-- A row of states, written. -/
def encL (L : List Nat) : List Nat := L.flatMap encN
theorem encL_inj : ∀ L M : List Nat, encL L = encL M → L = M
  | [], [], _ => rfl
  | [], m :: M, h => by
    have h1 : (encL (m :: M)).length = (encN m).length + (encL M).length := by simp [encL]
    have := encN_pos m
    rw [← h] at h1
    simp only [encL, List.flatMap_nil, List.length_nil] at h1
    omega
  | l :: L, [], h => by
    have h1 : (encL (l :: L)).length = (encN l).length + (encL L).length := by simp [encL]
    have := encN_pos l
    rw [h] at h1
    simp only [encL, List.flatMap_nil, List.length_nil] at h1
    omega
  | l :: L, m :: M, h => by
    have h1 : encN l ++ encL L = encN m ++ encL M := by simpa [encL] using h
    obtain ⟨rfl, h2⟩ := encN_inj l l m _ _ (Nat.le_refl _) h1
    rw [encL_inj L M h2]
theorem encL_len : ∀ L : List Nat, (∀ x ∈ L, x < 2000000) → (encL L).length ≤ 3 * L.length
  | [], _ => by simp [encL]
  | l :: L, h => by
    have h1 : (encL (l :: L)).length = (encN l).length + (encL L).length := by simp [encL]
    have h2 := encN_len l (h l (by simp))
    have h3 := encL_len L fun x hx => h x (by simp [hx])
    rw [h1, List.length_cons]; omega
theorem encL_take {L : List Nat} {i : Nat} (h : i < L.length) : encL (L.take (i + 1)) = encL (L.take i) ++ encN L[i] := by
  unfold encL
  rw [List.take_succ_eq_append_getElem h, List.flatMap_append]; simp
end Go.Proofs.YtpfhhdiipedklaaDoor
set_option maxRecDepth 100000
namespace Go.Proofs.YtpfhhdiipedklaaDoor
open Go.RowKit

set_option maxHeartbeats 1000000 in
theorem indexI_any (v : Value) (L : List Int) (x : Int) (w : World) (hl : L.length < 100000000) (hv : IntsAt w v L) :
    Calls Tryd.prog 61 #[v, .int .i64 x] w fun e w' => (∃ n : Int, e = .returned (.int .i64 n) ∧ (decide (0 ≤ n)) = decide (x ∈ L)) ∧ Below w.heap.size w w' := by
  obtain ⟨a, cap, rfl, hc⟩ := hv
  have HC := Lib.hid hc
  clear hc
  go_enter Tryd.func61, Tryd.ntmps61
  go_wp2
  go_loopw [8] (fun i wr => ∃ k : Nat, k ≤ L.length ∧ i = .int .i64 k ∧ Hid (∀ i (h : i < L.length), i < k → x ≠ L[i]) ∧ wr = w) (fun i _ => L.length - (intOf i).toNat)
  case atStart => exact ⟨0, by omega, rfl, Lib.hid fun i _ h => by omega, rfl⟩
  case round =>
    obtain ⟨k, hkl, rfl, HP, rfl⟩ := hrel
    by_cases hlt : k < L.length
    · have hdd : decide ((k : Int) < L.length) = true := by simpa using hlt
      obtain ⟨b, ob, rfl, hc2⟩ := HC.out k hlt
      have HM : Hid (x = L[k] → x ∈ L) := Lib.hid fun h => h ▸ List.getElem_mem hlt
      have HN : Hid (x ≠ L[k] → ∀ i (h : i < L.length), i < k + 1 → x ≠ L[i]) := Lib.hid fun h i hi hik => by
        rcases Nat.lt_succ_iff_lt_or_eq.1 hik with h1 | rfl
        · exact HP.out i hi h1
        · exact h
      clear HP
      generalize L[k] = y at *
      by_cases hxy : x = y
      · subst hxy
        have hbb : ((x : Int) == x) = true := by simp
        have HMM := Lib.hid (HM.out rfl)
        clear HM HN
        go_wp2
        go_ret
        refine ⟨⟨_, rfl, ?_⟩, Below.refl _ _⟩
        rw [decide_eq_true HMM.out]
        exact decide_eq_true (Int.natCast_nonneg k)
      · have hbb : ((x : Int) == y) = false := by simpa using hxy
        have HNN := Lib.hid (HN.out hxy)
        clear HM HN
        go_wp2
        exact ⟨⟨k + 1, by omega, rfl, HNN, trivial⟩, by simp only [intOf]; omega⟩
    · have hdd : decide ((k : Int) < L.length) = false := by simpa using hlt
      have HA : Hid (x ∉ L) := Lib.hid fun h => by
        obtain ⟨i, hi, e⟩ := List.getElem_of_mem h
        exact HP.out i hi (by omega) e.symm
      clear HP
      go_wp2
      go_ret
      refine ⟨⟨-1, rfl, ?_⟩, Below.refl _ _⟩
      rw [decide_eq_false HA.out]; rfl
set_option maxHeartbeats 1000000 in
theorem containsI_any (v : Value) (L : List Int) (x : Int) (w : World) (hl : L.length < 100000000) (hv : IntsAt w v L) :
    Calls Tryd.prog 36 #[v, .int .i64 x] w fun e w' => e = .returned (.bool (decide (x ∈ L))) ∧ Below w.heap.size w w' := by
  have HX := Lib.hid (indexI_any v L x w hl hv)
  obtain ⟨a, cap, rfl, _⟩ := hv
  go_enter Tryd.func36, Tryd.ntmps36
  go_wp2_with (go_at_call 61; refine HX.out.mono ?_; rintro e w2 ⟨⟨n, rfl, hn⟩, hb2⟩; have HN := Lib.hid hn; clear hn)
  go_ret
  refine ⟨?_, hb2⟩
  rw [← HN.out]
  first | rfl | (congr 2)
end Go.Proofs.YtpfhhdiipedklaaDoor
set_option maxRecDepth 100000
namespace Go.Proofs.YtpfhhdiipedklaaDoor
open Go.RowKit

/-- Entries keyed by strings, no key twice. -/
structure KeyS (es : Array MapEntry) : Prop where
  str : ∀ x ∈ es.toList, MapKept.IsKey .string x.key
  once : (es.toList.map (·.key)).Nodup
/-- A step's key. -/
def keyOfStep (b : Nat) (L : List Nat) : ByteArray := ⟨((b :: encL L).map fun x => UInt8.ofNat x).toArray⟩
/-- What a trip remembers is right. -/
structure KN (w : World) (B bm cnt : Nat) (E : List (Nat × Nat)) (A : List (Nat × Nat × BitVec 256)) : Prop where
  map : ∃ es c, w.heap[bm]? = some (.map es c) ∧ KeyS es ∧ ∀ x ∈ es.toList, ∃ (b : Nat) (L l : List Nat), b < 256 ∧ x.key = .string (keyOfStep b L) ∧ w.ownsRow B 3 1 x.val l.length (l.map fun x : Nat => Value.int .i64 (x : Int)) ∧ l.Pairwise (· < ·) ∧ ∀ s, s ∈ l ↔ Reach cnt E (stepT A b (L.map fun x : Nat => (x : Int))) s
theorem KN.new {w : World} {B bm cnt : Nat} {E : List (Nat × Nat)} {A : List (Nat × Nat × BitVec 256)} (h : w.heap[bm]? = some (.map #[] 0)) : KN w B bm cnt E A :=
  ⟨_, _, h, ⟨by simp, by simp⟩, by simp⟩
theorem KN.keep {w w' : World} {B bm cnt : Nat} {E : List (Nat × Nat)} {A : List (Nat × Nat × BitVec 256)} (h : KN w B bm cnt E A) (hb : ∀ es c, w.heap[bm]? = some (.map es c) → w'.heap[bm]? = some (.map es c)) (hr : ∀ (g : Nat) (cs : Array Value), w.heap[g]? = some (.cells cs 3 (0, 0)) → w'.heap[g]? = some (.cells cs 3 (0, 0))) : KN w' B bm cnt E A := by
  obtain ⟨es, c, h1, h2, h3⟩ := h.map
  refine ⟨es, c, hb es c h1, h2, fun x hx => ?_⟩
  obtain ⟨b, L, l, h4, h5, h6, h7⟩ := h3 x hx
  exact ⟨b, L, l, h4, h5, row_keep h6 fun g cs _ h8 => hr g cs h8, h7⟩
/-- A trip at t: w0 is the world behind its walker. -/
structure TI (w0 wr : World) (t bm b1 b2 cnt kept : Nat) (E : List (Nat × Nat)) (A : List (Nat × Nat × BitVec 256)) : Prop where
  below : Below w0.heap.size w0 wr
  far : w0.heap.size ≤ t ∧ w0.heap.size ≤ bm ∧ t ≠ bm
  wk : Walker w0 b1 b2 E A
  obj : ∃ (kv : Value) (xs : List Nat), wr.heap[t]? = some (.cells #[.int .i64 cnt, .map (some b1), .map (some b2), .map (some bm), .int .i64 kept, kv] 87 (0, 0)) ∧ wr.ownsRow w0.heap.size 5 1 kv xs.length (u8s xs)
  known : KN wr w0.heap.size bm cnt E A
theorem TI.next {w0 w w' : World} {t bm b1 b2 cnt kept : Nat} {E : List (Nat × Nat)} {A : List (Nat × Nat × BitVec 256)} (h : TI w0 w t bm b1 b2 cnt kept E A) (hb : Below w.heap.size w w') : TI w0 w' t bm b1 b2 cnt kept E A := by
  obtain ⟨kv, xs, h1, h2⟩ := h.obj
  exact ⟨h.below.trans (hb.mono h.below.size), h.far, h.wk, ⟨kv, xs, (hb.block _ (lt_of_block h1)).trans h1, row_keep h2 fun g cs _ h3 => (hb.block _ (lt_of_block h3)).trans h3⟩, h.known.keep (fun es c h3 => (hb.block _ (lt_of_block h3)).trans h3) fun g cs h3 => (hb.block _ (lt_of_block h3)).trans h3⟩
set_option maxHeartbeats 2000000 in
theorem newTrip_any (cnt : Nat) (E : List (Nat × Nat)) (A : List (Nat × Nat × BitVec 256)) (ve va : Value) (w : World) (hE : RowE w ve E) (hA : RowA w va A) (hle : E.length ≤ 20000) (hla : A.length ≤ 20000) :
    Calls Tryd.prog 34 #[.agg #[.int .i64 cnt, ve, va, .int .i64 0, .int .i64 1]] w fun e w' => ∃ (w0 : World) (t bm b1 b2 : Nat), e = .returned (ptr t) ∧ Hid (TI w0 w' t bm b1 b2 cnt 0 E A) ∧ Hid (Below w.heap.size w w0) := by
  obtain ⟨ae, ce, rfl⟩ := hE.form
  obtain ⟨aa, ca, rfl⟩ := hA.form
  have hb0 := new_one w (.cells #[.int .i64 cnt, .slice ae E.length ce, .slice aa A.length ca, .int .i64 0, .int .i64 1] 27)
  have HNW := Lib.hid (newWalker_any cnt E A _ _ _ (hE.below hb0) (hA.below hb0) hle hla)
  have HB0 := Lib.hid hb0
  have hmm := run_makeMap (P := Tryd.prog) 85
  clear hE hA hb0
  go_enter Tryd.func34, Tryd.ntmps34
  go_wp2_with (go_at_call 28; refine HNW.out.mono ?_; rintro e w1 ⟨b1, b2, rfl, hW, hb1⟩)
  go_ret
  have hb := HB0.out.trans (hb1.out.mono HB0.out.size)
  have HW := Lib.hid hW.out
  clear hW hb1
  refine ⟨w1, w1.heap.size + 1, w1.heap.size, b1, b2, rfl, Lib.hid ?_, Lib.hid hb⟩
  have hW := HW.out
  obtain ⟨M, hM⟩ : ∃ M, w1.heap.size = M := ⟨_, rfl⟩
  have x2 := heap_alloc_new w1 (.map #[] 0)
  have d2 := new_one w1 (.map #[] 0)
  have s2 : (w1.alloc (.map #[] 0)).heap.size = M + 1 := by simp [hM]
  rw [hM] at x2 d2 ⊢
  generalize w1.alloc (.map #[] 0) = u2 at *
  have x3 := heap_alloc_new u2 (.cells #[.int .i64 cnt, .map (some b1), .map (some b2), .map (some M), .int .i64 0, .slice none 0 0] 87)
  have d3 := new_one u2 (.cells #[.int .i64 cnt, .map (some b1), .map (some b2), .map (some M), .int .i64 0, .slice none 0 0] 87)
  rw [s2] at x3 d3
  refine ⟨hM ▸ (d2.trans (d3.mono (by omega))), by omega, hW, ⟨.slice none 0 0, [], x3, by simpa [u8s] using World.ownsRow_nil _ _ _ _⟩, KN.new ((d3.block M (by omega)).trans x2)⟩
end Go.Proofs.YtpfhhdiipedklaaDoor
