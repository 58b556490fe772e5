/- The walk of the law WordsTell. -/
import Derived.Test.YtplgnbedcjanhaaBs
set_option maxRecDepth 100000
namespace Go.Proofs.Ytplgnbedcjanhaa
open Go.RowKit

/-- Words of given kinds: each has one byte more than the last one. -/
def tellW (l : List Nat) : Nat → List Int → List Wd
  | _, [] => []
  | i, k :: ks => ⟨k, l.take (min i l.length), 0⟩ :: tellW l (i + 1) ks
theorem tellW_len (l : List Nat) : ∀ (ks : List Int) (i : Nat), (tellW l i ks).length = ks.length
  | [], _ => rfl
  | k :: ks, i => by rw [tellW, List.length_cons, tellW_len l ks]; rfl
theorem tellW_snoc (l : List Nat) (k : Int) : ∀ (ks : List Int) (i : Nat), tellW l i (ks ++ [k]) = tellW l i ks ++ [⟨k, l.take (min (i + ks.length) l.length), 0⟩]
  | [], i => rfl
  | x :: ks, i => by
    rw [List.cons_append, tellW, tellW_snoc l k ks (i + 1), tellW, List.cons_append, List.length_cons]
    rw [show i + 1 + ks.length = i + (ks.length + 1) by omega]
theorem tellW_join (l : List Nat) : ∀ (ks : List Int) (i : Nat), (joinL (tellW l i ks)).length ≤ ks.length * (l.length + 3)
  | [], _ => Nat.zero_le _
  | k :: ks, i => by
    have ih := tellW_join l ks (i + 1)
    have ho : (outW ⟨k, l.take (min i l.length), 0⟩).length ≤ l.length + 2 := by
      unfold outW
      split
      · simp only [List.length_cons, List.length_append, List.length_take, List.length_nil]; omega
      · simp only [List.length_take]; omega
    rw [tellW]
    rw [List.length_cons, Nat.succ_mul]
    cases hw : tellW l (i + 1) ks with
    | nil => show (outW _).length ≤ _; omega
    | cons y ws =>
      rw [hw] at ih
      rw [joinL_cons, List.length_append, List.length_cons]
      omega
/-- A row of ints, to be read. -/
def KsAt (w : World) (v : Value) (ks : List Int) : Prop := ∃ a c, v = .slice a ks.length c ∧ ks.length ≤ c ∧ ∀ i (h : i < ks.length), ∃ b o, a = some ⟨b, o, none⟩ ∧ w.cell? ⟨b, o + i, none⟩ = some (.int .i64 ks[i])
theorem KsAt.below {w w' : World} {v : Value} {ks : List Int} (h : KsAt w v ks) (hb : Below w.heap.size w w') : KsAt w' v ks := by
  obtain ⟨a, c, e, hc, h1⟩ := h
  exact ⟨a, c, e, hc, fun i hi => by
    obtain ⟨b, o, e1, e2⟩ := h1 i hi
    exact ⟨b, o, e1, cell_below hb e2⟩⟩
theorem KsAt.at {w : World} {a : Option Addr} {n c : Nat} {ks : List Int} (h : KsAt w (.slice a n c) ks) {i : Nat} (hi : i < ks.length) : ∃ b o, a = some ⟨b, o, none⟩ ∧ w.cell? ⟨b, o + i, none⟩ = some (.int .i64 ks[i]) := by
  obtain ⟨a', c', e, _, h1⟩ := h
  cases e
  exact h1 i hi
set_option linter.unusedSimpArgs false in
set_option maxHeartbeats 8000000 in
theorem tell_law (s : ByteArray) (at' : Int) (v : Value) (ks : List Int) (w : World) (hk : KsAt w v ks) : Calls Try.prog 4 #[.string s, .int .i64 at', v] w fun e w' => e = .returned (.bool true) ∧ Below w.heap.size w w' := by
  have mixed := mixed12
  obtain ⟨i0, hi, hz0, hz1, hz2⟩ := info_parts infoWord
  have HI := Lib.hid (⟨hi, hz0, hz1, hz2⟩ : _ ∧ _ ∧ _ ∧ _)
  clear hi hz0 hz1 hz2
  have HA := Lib.hid (awake_any w)
  have HK := Lib.hid hk
  obtain ⟨ka, kc, rfl, hkc, _⟩ := hk
  by_cases hsz : s.size ≤ 300
  · have hd : decide ((s.size : Int) > 300) = false := decide_eq_false (by omega)
    have hd2 : decide ((300 : Int) < s.size) = false := decide_eq_false (by omega)
    by_cases hkn : ks.length ≤ 20
    · have hd3 : decide ((ks.length : Int) > 20) = false := decide_eq_false (by omega)
      have hd4 : decide ((20 : Int) < ks.length) = false := decide_eq_false (by omega)
      obtain ⟨l, hl⟩ : ∃ l, bytesOf s = l := ⟨_, rfl⟩
      have hll : l.length = s.size := by rw [← hl, bytesOf_len]
      have HL := Lib.hid hl
      have HLL := Lib.hid hll
      obtain ⟨kk, hkk, hmm⟩ := clamp s at'
      have HLN := Lib.hid (fun W => line_any s l hl (by omega) at' kk hkk hmm W)
      have HRL := Lib.hid (fun W => rline_any s l hl (by omega) at' kk hkk hmm W)
      have HIN := Lib.hid (fun W => isName_any s l hl (by omega) W)
      have HRN := Lib.hid (fun W => risName_any s l hl (by omega) W)
      generalize (lineL (l.take kk)).1 = p at *
      generalize (lineL (l.take kk)).2 = q at *
      generalize isNameW l = nm at *
      have e1 : ((p : Int) == (p : Int)) = true := eq_yes rfl
      have e2 : ((q : Int) == (q : Int)) = true := eq_yes rfl
      have e3 : (nm == nm) = true := by simp
      have HJB : Hid ((joinL (tellW l 0 ks)).length ≤ 90000) := Lib.hid (by
        have h1 := tellW_join l ks 0
        have h2 : ks.length * (l.length + 3) ≤ 20 * 303 := Nat.mul_le_mul hkn (by omega)
        omega)
      have HWL := Lib.hid (tellW_len l ks 0)
      clear hl hll hkk hmm
      go_enter Try.func4, Try.ntmps4
      go_wp2_with (go_at_call 7; (with_reducible refine HA.out.mono ?_); rintro e w1 ⟨rfl, hb1⟩)
      obtain ⟨N, hN⟩ : ∃ N, w1.heap.size = N := ⟨_, rfl⟩
      have HN := Lib.hid hN
      clear hN
      have HK1 := Lib.hid (HK.out.below hb1.out)
      go_loopw [8, 9] (fun u z wr => ∃ (k : Nat) (va : Option Addr) (vc : Nat), u = .slice va k vc ∧ z = .int .i64 k ∧ k ≤ ks.length ∧ Hid (wr.ownsRow N 35 3 (.slice va k vc) k (flatW (tellW l 0 (ks.take k)))) ∧ Hid (Below N w1 wr)) (fun _ z _ => ks.length - (intOf z).toNat)
      case atStart => exact ⟨0, none, 0, rfl, rfl, Nat.zero_le _, Lib.hid (World.ownsRow_nil _ _ _ _), Lib.hid (Below.refl _ _)⟩
      case round =>
        obtain ⟨k, va, vc, rfl, rfl, hk, HR, HB⟩ := hrel
        by_cases hlt : k < ks.length
        · have hd5 : decide ((k : Int) < ks.length) = true := decide_eq_true (by omega)
          have hki : (k : Int) < ks.length := by omega
          have hbw : Below w1.heap.size w1 wr := by rw [HN.out]; exact HB.out
          obtain ⟨b, o, rfl, c1⟩ := HK1.out.at hlt
          have c0 := cell_below hbw c1
          have hbN : b < N := by have h9 : b < w1.heap.size := cell_lt c1; have := HN.out; omega
          have HT : Hid (flatW (tellW l 0 (ks.take (k + 1))) = flatW (tellW l 0 (ks.take k)) ++ wdC ⟨ks[k], l.take (min k l.length), 0⟩) := Lib.hid (by
            have hlk : (ks.take k).length = k := by rw [List.length_take]; omega
            rw [List.take_succ_eq_append_getElem hlt, tellW_snoc, flatW_snoc, hlk, Nat.zero_add])
          have hNr : N ≤ wr.heap.size := by have := HB.out.size; have := HN.out; omega
          have HNR := Lib.hid hNr
          obtain ⟨m, hm⟩ : ∃ m, min k s.size = m := ⟨_, rfl⟩
          have hmi : min (k : Int) (s.size : Int) = (m : Int) := by omega
          have hms : m ≤ s.size := by omega
          have hmm : (m : Int) ≤ (s.size : Int) := by omega
          have HTX : Hid (s.extract 0 m = strOf (l.take (min k l.length))) := Lib.hid (by rw [ext_str, HL.out, List.drop_zero, HLL.out, hm])
          obtain ⟨T, hT⟩ : ∃ T, l.take (min k l.length) = T := ⟨_, rfl⟩
          rw [hT] at HTX HT
          have htx := HTX.out
          generalize ks[k] = kd at *
          clear c1
          have HRA := Lib.hid (HR.out.alloc (.cells #[.int .i64 kd, .string (strOf T), .int .i64 0] 35))
          clear hNr hT hm hbw
          go_wp2_with fail
          refine region_goes 15 15 rfl (fun W => W.cell? ⟨b, o + k, none⟩ = some (.int .i64 kd)) mixed c0 (fun hHeld => ?_)
          refine goes_take0 (i := 0) (v := ?gwa1) rfl (by kernel_rfl) (by kernel_rfl) (by kernel_rfl) rfl (fun _ _ _ h => h) (Or.inl ⟨by rfl, ?gxa1⟩) (by assumption) ?gqa1
          case gxa1 => (intro W9 _; first | (go_simp; done) | (go_simp; with_reducible rfl))
          simp only [Act.put, List.getElem_toArray, List.getElem_cons_succ, List.getElem_cons_zero, List.setIfInBounds_toArray, List.set_cons_zero, List.set_cons_succ]
          refine goes_take0 (i := 1) (v := ?gwa2) rfl (by kernel_rfl) (by kernel_rfl) (by kernel_rfl) rfl (fun _ _ _ h => h) (Or.inl ⟨by rfl, ?gxa2⟩) (by assumption) ?gqa2
          case gxa2 => (intro W9 _; first | (go_simp; done) | (go_simp; with_reducible rfl))
          simp only [Act.put, List.getElem_toArray, List.getElem_cons_succ, List.getElem_cons_zero, List.setIfInBounds_toArray, List.set_cons_zero, List.set_cons_succ]
          refine goes_take0 (i := 2) (v := ?gwa3) rfl (by kernel_rfl) (by kernel_rfl) (by kernel_rfl) rfl (fun _ _ _ h => h) (Or.inl ⟨by rfl, ?gxa3⟩) (by assumption) ?gqa3
          case gxa3 => (intro W9 _; first | (go_simp; done) | (go_simp; with_reducible rfl))
          simp only [Act.put, List.getElem_toArray, List.getElem_cons_succ, List.getElem_cons_zero, List.setIfInBounds_toArray, List.set_cons_zero, List.set_cons_succ]
          refine goes_take0 (i := 3) (v := ?gwa4) rfl (by kernel_rfl) (by kernel_rfl) (by kernel_rfl) rfl (fun _ _ _ h => h) (Or.inl ⟨by rfl, ?gxa4⟩) (by assumption) ?gqa4
          case gxa4 => (intro W9 _; first | (go_simp; done) | (go_simp; with_reducible rfl))
          simp only [Act.put, List.getElem_toArray, List.getElem_cons_succ, List.getElem_cons_zero, List.setIfInBounds_toArray, List.set_cons_zero, List.set_cons_succ]
          refine goes_take0 (i := 4) (v := ?gwa5) rfl (by kernel_rfl) (by kernel_rfl) (by kernel_rfl) rfl (fun _ _ _ h => h) (Or.inl ⟨by rfl, ?gxa5⟩) (by assumption) ?gqa5
          case gxa5 => (intro W9 hW9; first | (go_simp; done) | (go_simp; with_reducible rfl))
          simp only [Act.put, List.getElem_toArray, List.getElem_cons_succ, List.getElem_cons_zero, List.setIfInBounds_toArray, List.set_cons_zero, List.set_cons_succ]
          refine goes_take0 (i := 5) (v := ?gwa6) rfl (by kernel_rfl) (by kernel_rfl) (by kernel_rfl) rfl (fun _ _ _ h => h) (Or.inl ⟨by rfl, ?gxa6⟩) (by assumption) ?gqa6
          case gxa6 => (intro W9 _; first | (go_simp; done) | (go_simp; with_reducible rfl))
          simp only [Act.put, List.getElem_toArray, List.getElem_cons_succ, List.getElem_cons_zero, List.setIfInBounds_toArray, List.set_cons_zero, List.set_cons_succ]
          refine goes_take0 (i := 6) (v := ?gwa7) rfl (by kernel_rfl) (by kernel_rfl) (by kernel_rfl) rfl (fun _ _ _ h => h) (Or.inl ⟨by rfl, ?gxa7⟩) (by assumption) ?gqa7
          case gxa7 => (intro W9 _; first | (go_simp; done) | (go_simp; with_reducible rfl))
          simp only [Act.put, List.getElem_toArray, List.getElem_cons_succ, List.getElem_cons_zero, List.setIfInBounds_toArray, List.set_cons_zero, List.set_cons_succ]
          refine goes_take0 (i := 7) (v := ?gwa8) rfl (by kernel_rfl) (by kernel_rfl) (by kernel_rfl) rfl (fun _ _ _ h => h) (Or.inl ⟨by rfl, ?gxa8⟩) (by assumption) ?gqa8
          case gxa8 => (intro W9 _; first | (go_simp; done) | (go_simp; with_reducible rfl))
          simp only [Act.put, List.getElem_toArray, List.getElem_cons_succ, List.getElem_cons_zero, List.setIfInBounds_toArray, List.set_cons_zero, List.set_cons_succ]
          refine goes_take0 (i := 8) (v := ?gwa9) rfl (by kernel_rfl) (by kernel_rfl) (by kernel_rfl) rfl (fun _ _ _ h => h) (Or.inl ⟨by rfl, ?gxa9⟩) (by assumption) ?gqa9
          case gxa9 => (intro W9 _; first | (go_simp; done) | (go_simp; with_reducible rfl))
          simp only [Act.put, List.getElem_toArray, List.getElem_cons_succ, List.getElem_cons_zero, List.setIfInBounds_toArray, List.set_cons_zero, List.set_cons_succ]
          refine goes_take0 (i := 9) (v := ?gwa10) rfl (by kernel_rfl) (by kernel_rfl) (by kernel_rfl) rfl (fun _ _ _ h => h) (Or.inl ⟨by rfl, ?gxa10⟩) (by assumption) ?gqa10
          case gxa10 => (intro W9 _; first | (go_simp; done) | (go_simp; with_reducible rfl))
          simp only [Act.put, List.getElem_toArray, List.getElem_cons_succ, List.getElem_cons_zero, List.setIfInBounds_toArray, List.set_cons_zero, List.set_cons_succ]
          refine goes_take0 (i := 10) (v := ?gwa11) rfl (by kernel_rfl) (by kernel_rfl) (by kernel_rfl) rfl (fun _ _ _ h => h) (Or.inl ⟨by rfl, ?gxa11⟩) (by assumption) ?gqa11
          case gxa11 => (intro W9 _; first | (go_simp; done) | (go_simp; with_reducible rfl))
          simp only [Act.put, List.getElem_toArray, List.getElem_cons_succ, List.getElem_cons_zero, List.setIfInBounds_toArray, List.set_cons_zero, List.set_cons_succ]
          refine goes_take0 (i := 11) (v := ?gwa12) rfl (by kernel_rfl) (by kernel_rfl) (by kernel_rfl) rfl (fun _ _ _ h => h) (Or.inl ⟨by rfl, ?gxa12⟩) (by assumption) ?gqa12
          case gxa12 => (intro W9 _; first | (go_simp; done) | (go_simp; with_reducible rfl))
          simp only [Act.put, List.getElem_toArray, List.getElem_cons_succ, List.getElem_cons_zero, List.setIfInBounds_toArray, List.set_cons_zero, List.set_cons_succ]
          refine goes_one (i := 12) (by kernel_rfl) rfl (fun K9 hK9 => ?_)
          go_simp
          have hb9 := (new_one wr (.cells #[.int .i64 kd, .string (strOf T), .int .i64 0] 35)).drew
          have hN9 : ((wr.alloc (.cells #[.int .i64 kd, .string (strOf T), .int .i64 0] 35)).drew).heap[wr.heap.size]? = _ := heap_alloc_new wr (.cells #[.int .i64 kd, .string (strOf T), .int .i64 0] 35)
          have hs9 : ((wr.alloc (.cells #[.int .i64 kd, .string (strOf T), .int .i64 0] 35)).drew).heap.size = wr.heap.size + 1 := World.size_alloc _ _
          have HO9 := Lib.hid HRA.out.drew
          obtain ⟨w9, hw9⟩ : ∃ w9, (wr.alloc (.cells #[.int .i64 kd, .string (strOf T), .int .i64 0] 35)).drew = w9 := ⟨_, rfl⟩
          rw [hw9] at hb9 hN9 hs9 HO9
          try rw [hw9]
          have hk9 := cell_below hb9 c0
          refine hK9.out _ _ (fun _ => hk9) (fun _ => ?_)
          clear hK9 K9 hHeld hw9
          have hHeld := hk9
          refine goes_one (i := 13) (by kernel_rfl) rfl (fun K9 hK9 => ?_)
          refine step_append_lies _ rfl (.tmp 31) (.tmp 43) 23 rfl N 35 i0 (.agg #[.int .i64 0, .string ⟨#[]⟩, .int .i64 0]) 3 32 Try.underlying23 HI.out.1 HI.out.2.1 HI.out.2.2.1 HI.out.2.2.2 rfl (by decide) (.slice va k vc) k (flatW (tellW l 0 (ks.take k))) rfl HO9.out ⟨wr.heap.size, 0, none⟩ 1 1 (wdC ⟨kd, T, 0⟩) rfl rfl (news_wd hN9) (by simp [wdC, Value.oneCell']) (by omega) (by unfold maxLen; omega) (by omega) (by have := HNR.out; omega) (wr.heap.size + 1) hs9 ?_
          intro g9 cap9 w8 h2 h3 h4 h5
          have hk8 : w8.cell? ⟨b, o + k, none⟩ = some (.int .i64 kd) := h3.cell hk9 (fun e => by have := (HR.out.lt b e.symm).1; omega)
          have HR8 := Lib.hid h2
          have HB8 : Hid (Below N w1 w8) := Lib.hid (push_words HB.out HR.out HNR.out hb9 h3)
          refine hK9.out _ _ (fun _ => hk8) (fun _ => ?_)
          clear hK9 K9 hHeld h2 h3 h4 h5 hb9 hN9 hs9 hk9
          have hHeld := hk8
          simp only [Act.put, List.getElem_toArray, List.getElem_cons_succ, List.getElem_cons_zero, List.setIfInBounds_toArray, List.set_cons_zero, List.set_cons_succ]
          refine goes_take0 (i := 14) (v := ?gwa13) rfl (by kernel_rfl) (by kernel_rfl) (by kernel_rfl) rfl (fun _ _ _ h => h) (Or.inl ⟨by rfl, ?gxa13⟩) (by assumption) ?gqa13
          case gxa13 => (intro W9 _; first | (go_simp; done) | (go_simp; with_reducible rfl))
          simp only [Act.put, List.getElem_toArray, List.getElem_cons_succ, List.getElem_cons_zero, List.setIfInBounds_toArray, List.set_cons_zero, List.set_cons_succ]
          refine goes_done (by kernel_rfl) ?_ _
          clear hk8 c0
          go_wp2
          go_roundw
          case rel => exact ⟨k + 1, _, _, rfl, by simp, hlt, Lib.hid (by rw [HT.out]; exact HR8.out), HB8⟩
          case measure => simp only [intOf]; omega
        · obtain rfl : k = ks.length := by omega
          have hd5 : decide ((ks.length : Int) < ks.length) = false := by simp
          have HW : Hid (WsAt wr (.slice va ks.length vc) (tellW l 0 ks)) := Lib.hid (by
            have h1 := HR.out
            rw [List.take_of_length_le (Nat.le_refl _)] at h1
            exact ws_row h1 HWL.out)
          have hb2 : Below w1.heap.size w1 wr := by rw [HN.out]; exact HB.out
          have HBW : Hid (Below w.heap.size w wr) := Lib.hid (hb1.out.trans (hb2.mono hb1.out.size))
          have HWK : Hid ((tellW l 0 ks).length ≤ 20) := Lib.hid (by rw [HWL.out]; exact hkn)
          have HJN := Lib.hid (fun W (h : Below wr.heap.size wr W) => join_any _ _ W (HW.out.below h) (by have := HWK.out; omega) HJB.out)
          have HPL := Lib.hid (fun W (h : Below wr.heap.size wr W) => plain_out _ _ W (HW.out.below h) (by have := HWK.out; omega))
          have HRJ : Hid (∀ v W, WsAt W v (tellW l 0 ks) → Calls Try.prog 17 #[v] W fun e w' => e = .returned (.string (strOf (joinL (tellW l 0 ks)))) ∧ w' = W) := Lib.hid (fun v W h => rjoin_any v _ W h (by have := HWK.out; omega) HJB.out)
          clear hb2
          generalize tellW l 0 ks = ws at *
          have e5 : ((strOf (joinL ws)).toList == (strOf (joinL ws)).toList) = true := by simp
          go_upto_region 12 with (go_at_call 12; (with_reducible refine (HLN.out _).mono ?_); rintro e w5 ⟨rfl, h9⟩; subst w5)
          go_upto_region 13 with (go_at_call 13; (with_reducible refine (HRL.out _).mono ?_); rintro e w5 ⟨rfl, h9⟩; subst w5)
          go_wp2_with (first
            | (go_at_call 14; (with_reducible refine (HIN.out _).mono ?_); rintro e w5 ⟨rfl, hb5⟩; have HJ5 := Lib.hid (HJN.out w5 hb5.out))
            | (go_at_call 15; (with_reducible refine (HRN.out _).mono ?_); rintro e w6 ⟨rfl, h6⟩; subst w6)
            | (go_at_call 16; (with_reducible refine HJ5.out.mono ?_); rintro e w7 ⟨rfl, hb7⟩; have HP7 := Lib.hid (HPL.out w7 (hb5.out.trans (hb7.out.mono hb5.out.size))))
            | (go_at_call 11; (with_reducible refine HP7.out.mono ?_); rintro e w8 ⟨a8, c8, rfl, hw8, hb8⟩; have HR8 := Lib.hid (HRJ.out _ w8 hw8.out))
            | (go_at_call 17; (with_reducible refine HR8.out.mono ?_); rintro e w9 ⟨rfl, h9⟩; subst w9))
          go_ret
          exact ⟨rfl, HBW.out.trans (((hb5.out.trans (hb7.out.mono hb5.out.size)).trans (hb8.out.mono (Nat.le_trans hb5.out.size hb7.out.size))).mono HBW.out.size)⟩
    · have hd3 : decide ((ks.length : Int) > 20) = true := decide_eq_true (by omega)
      have hd4 : decide ((20 : Int) < ks.length) = true := decide_eq_true (by omega)
      go_enter Try.func4, Try.ntmps4
      go_wp2_with (go_at_call 7; (with_reducible refine HA.out.mono ?_); rintro e w1 ⟨rfl, hb1⟩)
      go_ret
      exact ⟨rfl, hb1.out⟩
  · have hd : decide ((s.size : Int) > 300) = true := decide_eq_true (by omega)
    have hd2 : decide ((300 : Int) < s.size) = true := decide_eq_true (by omega)
    go_enter Try.func4, Try.ntmps4
    go_wp2_with (go_at_call 7; (with_reducible refine HA.out.mono ?_); rintro e w1 ⟨rfl, hb1⟩)
    go_ret
    exact ⟨rfl, hb1.out⟩
end Go.Proofs.Ytplgnbedcjanhaa
