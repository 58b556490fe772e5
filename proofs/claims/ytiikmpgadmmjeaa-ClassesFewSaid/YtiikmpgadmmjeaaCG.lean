/- Contracts of the reference: which bytes are alike, the classes. -/
import Derived.Test.YtiikmpgadmmjeaaCB
set_option maxRecDepth 100000
namespace Go.Proofs.Ytiikmpgadmmjeaa
open Go.RowKit
attribute [local go_sem] zero_u8s

set_option maxHeartbeats 2000000 in
theorem ralike_any (v : Value) (m : List Sta) (a b : Nat) (w : World) (hv : MachAt w v m) (hml : m.length < 1000000) (hl : ∀ s ∈ m, s.arcs.length < 9223372036854775808) (hm : Mays m) :
    Calls Try.prog 24 #[v, .int .u8 a, .int .u8 b] w fun e w' => e = .returned (.bool (likeB m a b)) ∧ w' = w := by
  have HNX := Lib.hid (fun st (c : Nat) => rnext_any v m st c w hv hl hm)
  obtain ⟨av, cv, rfl⟩ := hv.len
  clear hv hl hm
  have HLK := Lib.hid (show likeB m a b = true ↔ ∀ i, i < m.length → nextS m (i : Nat) a = nextS m (i : Nat) b from likeU_iff)
  obtain ⟨L, hL⟩ : ∃ L, likeB m a b = L := ⟨_, rfl⟩
  rw [hL] at HLK ⊢
  clear hL
  go_enter Try.func24, Try.ntmps24
  go_wp2
  go_loopw [7] (fun z wr => ∃ i : Nat, z = .int .i64 i ∧ i ≤ m.length ∧ Hid (∀ j, j < i → nextS m (j : Nat) a = nextS m (j : Nat) b) ∧ wr = w) (fun z _ => m.length - (intOf z).toNat)
  case atStart => exact ⟨0, rfl, Nat.zero_le _, Lib.hid (fun _ h => by omega), rfl⟩
  case round =>
    obtain ⟨i, rfl, hi, HF, rfl⟩ := hrel
    by_cases hlt : i < m.length
    · have hd : decide ((i : Int) < m.length) = true := decide_eq_true (by omega)
      have HA := Lib.hid (HNX.out (i : Nat) a)
      have HB := Lib.hid (HNX.out (i : Nat) b)
      by_cases hxy : nextS m (i : Nat) a = nextS m (i : Nat) b
      · have HF2 := Lib.hid (show ∀ j, j < i + 1 → nextS m (j : Nat) a = nextS m (j : Nat) b from fun j hj => by
          by_cases e : j = i
          · subst e; exact hxy
          · exact HF.out j (by omega))
        rw [hxy] at HA
        clear hxy HF
        generalize nextS m (i : Nat) b = y at *
        go_wp2_with (go_at_call 32; first | ((with_reducible refine HA.out.mono ?_); rintro e w5 ⟨rfl, e5⟩; subst w5) | ((with_reducible refine HB.out.mono ?_); rintro e w5 ⟨rfl, e5⟩; subst w5))
        exact ⟨⟨i + 1, rfl, hlt, HF2, trivial⟩, by simp only [intOf]; omega⟩
      · have HN := Lib.hid (show L = false from by rw [Bool.eq_false_iff]; intro h; exact hxy (HLK.out.1 h i hlt))
        have hb1 : (nextS m (i : Nat) a == nextS m (i : Nat) b) = false := by rw [beq_eq_false_iff_ne]; exact hxy
        have hb2 : (nextS m (i : Nat) a != nextS m (i : Nat) b) = true := by rw [bne_iff_ne]; exact hxy
        clear hxy
        generalize nextS m (i : Nat) a = x at *
        generalize nextS m (i : Nat) b = y at *
        go_wp2_with (go_at_call 32; first | ((with_reducible refine HA.out.mono ?_); rintro e w5 ⟨rfl, e5⟩; subst w5) | ((with_reducible refine HB.out.mono ?_); rintro e w5 ⟨rfl, e5⟩; subst w5))
        go_ret
        exact ⟨by rw [HN.out]; rfl, rfl⟩
    · have hd : decide ((i : Int) < m.length) = false := decide_eq_false (by omega)
      have hdn : decide (i < m.length) = false := decide_eq_false hlt
      have HN := Lib.hid (show L = true from HLK.out.2 fun j hj => HF.out j (by omega))
      clear hlt
      go_wp2
      go_ret
      exact ⟨by rw [HN.out]; rfl, rfl⟩
theorem rof_result {w : World} {b : Nat} {f : Nat → Nat} (h : UBlk w b f) {tmps : Array Value} {v : Value} (ht : tmps.getD 2 undef = .pointer (some ⟨b, 0, none⟩)) (hv : tmps.getD 3 undef = v) : (results Try.f9 tmps).run Try.prog w = .ok (.tuple #[.agg (U8s f), v]) w := by
  have hp : tmps[2]?.getD undef = .pointer (some ⟨b, 0, none⟩) := by simpa using ht
  have hq : tmps[3]?.getD undef = v := by simpa using hv
  simp [results, hp, hq, asAddr, load_u8c h]
theorem cls_found {E : Nat → Nat → Bool} {b k : Nat} (hk : k < (repsUp E b).length) (h : E (repsUp E b)[k] b = true) (hn : ∀ j (hj : j < (repsUp E b).length), j < k → E (repsUp E b)[j] b = false) : clsOf E b = k := by
  unfold clsOf
  rw [List.findIdx_eq hk]
  exact ⟨h, fun j hj => hn j (by omega) hj⟩
theorem cls_none {E : Nat → Nat → Bool} {b : Nat} (hn : ∀ j (hj : j < (repsUp E b).length), j < (repsUp E b).length → E (repsUp E b)[j] b = false) : clsOf E b = (repsUp E b).length := by
  unfold clsOf
  rw [List.findIdx_eq_length]
  intro x hx
  obtain ⟨j, hj, rfl⟩ := List.getElem_of_mem hx
  exact hn j hj hj
theorem ublk_push {B b n sz : Nat} {e : TypeId} {w w7 w8 : World} {v : Value} {xs : List Value} {f : Nat → Nat} (h : UBlk w b f) (hrow : w.ownsRow B e sz v n xs) (hb : b < B) (h7 : Below w.heap.size w w7) (hg : w7.grownBy w8 v.ownBlock) : UBlk w8 b f := by
  have h1 := h.below h7
  have h9 := h1.lt
  unfold UBlk at *
  rw [hg.block b h9 (fun e => by have := (hrow.lt b e.symm).1; omega)]
  exact h1
theorem row_setCell {w : World} {B n sz : Nat} {e : TypeId} {v : Value} {xs : List Value} (h : w.ownsRow B e sz v n xs) {a : Addr} (ha : a.block < B) (u : Value) : (w.setCell a u).ownsRow B e sz v n xs :=
  row_keep h fun g cs hg hb => (Below.heap_setCell _ _ _ _ (by have := (h.lt g hg).1; omega)).trans hb
set_option maxHeartbeats 8000000 in
theorem rof_any (v : Value) (m : List Sta) (w : World) (hv : MachAt w v m) (hml : m.length < 1000000) (hl : ∀ s ∈ m, s.arcs.length < 9223372036854775808) (hm : Mays m) :
    Calls Try.prog 9 #[v] w fun e w' => e = .returned (.tuple #[.agg (U8s (clsOf (likeB m))), .int .i64 (cntOf m : Nat)]) ∧ Below w.heap.size w w' := by
  obtain ⟨i0, hi, hz0, hz1, hz2⟩ := info_parts infoU8
  have HI := Lib.hid (⟨hi, hz0, hz1, hz2⟩ : Try.prog.info? 5 = some i0 ∧ i0.zero = some (.int .u8 0) ∧ i0.size = 1 ∧ i0.bytes = 1)
  clear hi hz0 hz1 hz2
  obtain ⟨av, cv, rfl⟩ := hv.len
  obtain ⟨B0, hB⟩ : ∃ B, w.heap.size = B := ⟨_, rfl⟩
  have HB := Lib.hid hB
  have HAK := Lib.hid (fun (W : World) (hb : Below B0 w W) (a b : Nat) => ralike_any _ m a b W (hv.below (by rw [hB]; exact hb)) hml hl hm)
  have HCN := Lib.hid (show (repsUp (likeB m) 256).length = cntOf m from rfl)
  clear hv hl hm
  obtain ⟨E, hE⟩ : ∃ E, likeB m = E := ⟨_, rfl⟩
  rw [hE] at HAK HCN ⊢
  clear hE
  obtain ⟨I1, hI1⟩ : ∃ I1, U8s (fun _ => 0) = I1 := ⟨_, rfl⟩
  obtain ⟨w1, hw1⟩ : ∃ w1, (w.alloc (.cells I1 24)).alloc (.cells I1 24) = w1 := ⟨_, rfl⟩
  have hsz : w1.heap.size = B0 + 2 := by rw [← hw1]; simp [hB]
  have HR : Hid (UBlk w1 B0 fun _ => 0) := Lib.hid (by
    rw [← hw1]; unfold UBlk
    rw [heap_alloc_old _ _ (by simp; omega), hI1, ← hB]; exact heap_alloc_new w _)
  have HC : Hid (UBlk w1 (B0 + 1) fun _ => 0) := Lib.hid (by
    rw [← hw1]; unfold UBlk
    rw [hI1]
    have := heap_alloc_new (w.alloc (.cells I1 24)) (.cells I1 24)
    rw [World.size_alloc, hB] at this; exact this)
  have HBW : Hid (Below B0 w w1) := Lib.hid (by
    rw [← hw1, ← hB]
    exact ((Below.refl _ w).alloc (Nat.le_refl _) _).alloc (by simp) _)
  have hz := zero_u8s
  rw [hI1] at hz
  rw [hB]
  go_enter Try.func9, Try.ntmps9
  go_wp2
  clear hz hI1 hw1
  generalize hb1 : B0 + 1 = b1 at *
  obtain ⟨N, hN⟩ : ∃ N, B0 + 2 = N := ⟨_, rfl⟩
  have HBS := Lib.hid (show b1 = B0 + 1 ∧ N = B0 + 2 by omega)
  rw [hN] at hsz
  clear hb1 hN
  go_loopw [5, 6, 7] (fun u z _ wr => ∃ b : Nat, z = .int .i64 b ∧ b ≤ 256 ∧ N ≤ wr.heap.size ∧ Hid (wr.ownsRow N 5 1 u (repsUp E b).length (u8s (repsUp E b))) ∧ Hid (UBlk wr B0 fun _ => 0) ∧ Hid (UBlk wr b1 fun i => if i < b then clsOf E i else 0) ∧ Hid (Below B0 w wr)) (fun _ z _ _ => 256 - (intOf z).toNat)
  case atStart => exact ⟨0, rfl, Nat.zero_le _, by omega, Lib.hid (World.ownsRow_nil _ _ _ _), HR, Lib.hid (HC.out.congr fun i _ => by rw [if_neg (by omega)]), HBW⟩
  case round =>
    clear HR HC HBW hsz
    obtain ⟨b, rfl, hb, hNr, HROW, HR, HC, HBW⟩ := hrel
    by_cases hlt : b < 256
    · have hd : decide ((b : Int) < 256) = true := decide_eq_true (by omega)
      have hb256 : (b : Int) < 256 := by omega
      have HLT := Lib.hid (reps_lt E b)
      have hln := reps_len E b
      have hwb : IntKind.u8.wrap (b : Int) = b := by rw [IntKind.wrap_u8]; omega
      have HFO := Lib.hid (fun (k : Nat) (hk : k < (repsUp E b).length) => cls_found (E := E) (b := b) hk)
      have HNO := Lib.hid (fun hn => cls_none (E := E) (b := b) hn)
      have HOLD := Lib.hid (fun (k : Nat) (hk : k < (repsUp E b).length) (e : clsOf E b = k) => reps_old (E := E) (b := b) (by rw [e]; exact hk))
      have HNEW := Lib.hid (fun (e : clsOf E b = (repsUp E b).length) => reps_new (E := E) (b := b) (by omega))
      have HUSE := Lib.hid (fun (l : List Nat) (e : repsUp E b = l) => e)
      obtain ⟨l, hl⟩ : ∃ l, repsUp E b = l := ⟨_, rfl⟩
      rw [hl] at HROW HLT hln HFO HNO HOLD HNEW
      clear HUSE hl
      obtain ⟨n, hn⟩ : ∃ n, l.length = n := ⟨_, rfl⟩
      have HLN := Lib.hid hn
      rw [hn] at HROW hln
      clear hn
      obtain ⟨a3, cp3, rfl⟩ := row_form HROW.out
      go_wp2
      go_loopw [7] (fun z ws => ∃ k : Nat, z = .int .i64 k ∧ k ≤ n ∧ Hid (∀ j (hj : j < l.length), j < k → E l[j] b = false) ∧ ws = wr) (fun z _ => n - (intOf z).toNat)
      case atStart => exact ⟨0, rfl, Nat.zero_le _, Lib.hid (fun _ _ h => by omega), rfl⟩
      case round =>
        obtain ⟨k, rfl, hk, HF, rfl⟩ := hrel
        by_cases hkn : k < n
        · have hd2 : decide ((k : Int) < n) = true := decide_eq_true (by omega)
          have hki : (k : Int) < n := by omega
          have hkl : k < l.length := by rw [HLN.out]; exact hkn
          obtain ⟨g, c, hge, hgc⟩ := row_cell HROW.out (by omega)
          injection hge with hg1 hg2 hg3
          subst hg1
          have c0 := hgc k (.int .u8 (l[k] : Nat)) (by rw [u8s_at hkl])
          have HAE := Lib.hid (HAK.out wr HBW.out l[k] b)
          have HEND := Lib.hid (HFO.out k hkl)
          have HF2 := Lib.hid (show E l[k] b = false → ∀ j (hj : j < l.length), j < k + 1 → E l[j] b = false from fun h j hj hjk => by
            by_cases e : j = k
            · subst e; exact h
            · exact HF.out j hj (by omega))
          clear hgc hg3
          cases hek : E l[k] b
          · rw [hek] at HAE
            have HF3 := Lib.hid (HF2.out hek)
            clear HF2 HEND hek
            generalize l[k] = x at *
            go_wp2_with (go_at_call 24; (with_reducible refine HAE.out.mono ?_); rintro e w5 ⟨rfl, e5⟩; subst w5)
            exact ⟨⟨k + 1, rfl, hkn, HF3, trivial⟩, by simp only [intOf]; omega⟩
          · rw [hek] at HAE
            have HCL := Lib.hid (HEND.out hek HF.out)
            have HRU := Lib.hid (HOLD.out k hkl HCL.out)
            have hq1 : ((k : Int) == n) = false := by rw [beq_eq_false_iff_ne]; omega
            have hq2 : (k == n) = false := by rw [beq_eq_false_iff_ne]; omega
            have hwk : IntKind.u8.wrap (k : Int) = k := by rw [IntKind.wrap_u8]; omega
            have hfz : wr.frozen? ⟨b1, b, none⟩ = false := HC.out.frozen
            have c1 := HC.out.cell hlt
            clear HF2 HEND hek
            generalize l[k] = x at *
            go_wp2_with (go_at_call 24; (with_reducible refine HAE.out.mono ?_); rintro e w5 ⟨rfl, e5⟩; subst w5)
            have hbs := HBS.out
            exact ⟨⟨b + 1, rfl, hlt, by simp; exact hNr, Lib.hid (by rw [HRU.out, HLN.out]; exact row_setCell HROW.out (by show b1 < N; omega) _), Lib.hid (HR.out.other (by show B0 ≠ b1; omega) _), Lib.hid (HC.out.set (k := b) (by rw [if_pos (by omega)]; exact HCL.out) (fun i _ hne => by
              by_cases h : i < b
              · rw [if_pos h, if_pos (by omega)]
              · rw [if_neg h, if_neg (by omega)])), Lib.hid (HBW.out.setCell (by show B0 ≤ b1; omega) _)⟩, by simp only [intOf]; omega⟩
        · obtain rfl : k = n := by omega
          have hd2 : decide ((k : Int) < k) = false := by simp
          have HCL := Lib.hid (HNO.out (fun j hj _ => HF.out j hj (by rw [HLN.out] at hj; exact hj)))
          have HRU := Lib.hid (HNEW.out HCL.out)
          have HCK := Lib.hid (HCL.out.trans HLN.out)
          have hwk : IntKind.u8.wrap (k : Int) = k := by rw [IntKind.wrap_u8]; omega
          have HRA := Lib.hid (HROW.out.alloc (.cells #[.int .u8 b] 5))
          have hbs := HBS.out
          have hbN : b1 < N := by omega
          have hBN : B0 < N := by omega
          have HBN := Lib.hid (show b1 < N ∧ B0 < N ∧ B0 < b1 by omega)
          clear hbs hkn
          go_wp2_with (at_builtin; refine wpList_append_lies _ rfl _ _ 28 rfl N 5 i0 (.int .u8 0) 1 1 Try.underlying28 HI.out.1 HI.out.2.1 HI.out.2.2.1 HI.out.2.2.2 rfl (by decide) (.slice a3 k cp3) k (u8s l) rfl HRA.out ⟨wr.heap.size, 0, none⟩ 1 1 [.int .u8 b] rfl rfl (news_in (cs := #[.int .u8 b]) (heap_alloc_new wr _)) (by simp [Value.oneCell']) (by omega) (by unfold maxLen; omega) (by omega) (by simp; omega) (wr.heap.size + 1) (by simp) ?_; intro g cap2 w8 h2 h3 h4 h5; have HP1 := Lib.hid (push3 HBW.out HROW.out (Nat.le_of_lt HBN.out.2.1) (Nat.le_trans (Nat.le_of_lt HBN.out.2.1) hNr) ((Below.refl _ _).alloc (Nat.le_refl _) _) h3); have hsz8 := h3.size; have HP3 := Lib.hid h2; have HPR := Lib.hid (ublk_push HR.out HROW.out HBN.out.2.1 ((Below.refl _ _).alloc (Nat.le_refl _) _) h3); have HPC := Lib.hid (ublk_push HC.out HROW.out HBN.out.1 ((Below.refl _ _).alloc (Nat.le_refl _) _) h3); have hfz : w8.frozen? ⟨b1, b, none⟩ = false := HPC.out.frozen; have c1 := HPC.out.cell hlt; clear h2 h3 h4 h5)
          exact ⟨⟨b + 1, rfl, hlt, by simp at hsz8 ⊢; omega, Lib.hid (by
            rw [HRU.out, List.length_append, List.length_singleton, HLN.out, u8s_snoc]
            exact row_setCell HP3.out (by show b1 < N; exact HBN.out.1) _), Lib.hid (HPR.out.other (by show B0 ≠ b1; have := HBN.out; omega) _), Lib.hid (HPC.out.set (k := b) (by rw [if_pos (by omega)]; exact HCK.out) (fun i _ hne => by
              by_cases h : i < b
              · rw [if_pos h, if_pos (by omega)]
              · rw [if_neg h, if_neg (by omega)])), Lib.hid (HP1.out.setCell (by show B0 ≤ b1; have := HBN.out; omega) _)⟩, by simp only [intOf]; omega⟩
    · obtain rfl : b = 256 := by omega
      have hd : decide (((256 : Nat) : Int) < 256) = false := by simp
      replace HC := Lib.hid (HC.out.congr (g := clsOf E) fun i hi => by rw [if_pos hi])
      rw [HCN.out] at HROW
      obtain ⟨a3, cp3, rfl⟩ := row_form HROW.out
      go_wp2_with (first | (refine wpList_load_u8c b1 (clsOf E) HC.out rfl _ rfl rfl ?_) | (refine wpList_store_u8c B0 (fun _ => 0) (clsOf E) HR.out rfl _ _ rfl rfl rfl ?_))
      have HRES := Lib.hid (HR.out.setRow (g := clsOf E))
      have HRB := Lib.hid (below_setRow HBW.out (Nat.le_refl B0) (U8s (clsOf E)))
      generalize wr.setRow B0 (U8s (clsOf E)) = w9 at *
      exact bodyPost_ret (v := .tuple #[.agg (U8s (clsOf E)), .int .i64 (cntOf m : Nat)]) (rof_result HRES.out rfl rfl) rfl ⟨rfl, HRB.out⟩
end Go.Proofs.Ytiikmpgadmmjeaa
