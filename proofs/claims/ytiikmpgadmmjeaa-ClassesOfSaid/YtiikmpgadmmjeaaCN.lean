/- The contract of the reference's Back. -/
import Derived.Test.YtiikmpgadmmjeaaCM
set_option maxRecDepth 100000
namespace Go.Proofs.Ytiikmpgadmmjeaa
open Go.RowKit
attribute [local go_sem] zero_u8s zero_i64s

/-- Where a row leads by each byte, as the reference has it. -/
def tgtR (T : List (List Int)) (row : Nat) (cls : Nat → Nat) : Nat → Int := fun b => if h : row < T.length then (if h' : cls b < T[row].length then (if T[row][cls b] < T.length then T[row][cls b] else -1) else -1) else -1
theorem arcsUp_neg {f g : Nat → Int} : ∀ n, (∀ b, b < n → f b = g b ∨ (f b < 0 ∧ g b < 0)) → arcsUp f n = arcsUp g n
  | 0, _ => rfl
  | n + 1, h => by
    show arcPut (arcsUp f n) n (f n) = arcPut (arcsUp g n) n (g n)
    rw [arcsUp_neg n fun b hb => h b (by omega)]
    rcases h n (by omega) with e | ⟨h1, h2⟩
    · rw [e]
    · rw [arcPut_neg h1, arcPut_neg h2]
theorem tgtR_arcs (T : List (List Int)) (row : Nat) (cls : Nat → Nat) : arcsS (tgtR T row cls) = arcsS (tgtT T row cls) :=
  arcsUp_neg 256 fun b _ => by
    unfold tgtR
    by_cases h : row < T.length
    · rw [dif_pos h]
      by_cases h' : cls b < T[row].length
      · rw [dif_pos h']
        have hn := nextT_at h h'
        unfold tgtT
        rw [hn]
        by_cases h2 : T[row][cls b] < T.length
        · rw [if_pos h2, if_neg (by omega)]; omega
        · rw [if_neg h2, if_pos (by omega)]; exact .inl rfl
      · rw [dif_neg h']
        have hn := nextT_short h h'
        unfold tgtT
        rw [hn]
        split
        · exact .inl rfl
        · exact .inl rfl
    · rw [dif_neg h]
      have hn := nextT_far (k := cls b) h
      unfold tgtT
      rw [hn]
      split
      · exact .inl rfl
      · exact .inl rfl
theorem tgtR_may {T : List (List Int)} (hT : TabOk T) (row : Nat) (cls : Nat → Nat) (b : Nat) : -9223372036854775808 ≤ tgtR T row cls b ∧ tgtR T row cls b < 9223372036854775808 := by
  unfold tgtR
  split
  · rename_i h
    split
    · rename_i h'
      have := (hT.2 T[row] (List.getElem_mem h)).2 _ (List.getElem_mem h')
      split <;> omega
    · omega
  · omega
theorem set2u {w : World} {b : Nat} {u0 u1 : Value} {t : TypeId} (h : w.heap[b]? = some (.cells #[u0, u1] t (0, 0))) (v : Value) : (w.setCell ⟨b, 0, none⟩ v).heap[b]? = some (.cells #[v, u1] t (0, 0)) := set2 h v
set_option maxHeartbeats 8000000 in
theorem rback10_any (cls : Nat → Nat) (vT vE : Value) (T : List (List Int)) (es : List Nat) (w : World) (hT : TabOk T) (hTn : T.length < 1000000) (hc : ∀ b, b < 256 → cls b < 256) (h4 : TabAt w vT T) (h5 : EndsAt w vE es) :
    Calls Try.prog 17 #[.agg (U8s cls), vT, vE] w fun e w' => ∃ v vs, e = .returned v ∧ Hid (RowsM w' w.heap.size v vs (backS T cls es)) ∧ Hid (Below w.heap.size w w') := by
  obtain ⟨i0, hi, hz0, hz1, hz2⟩ := info_parts infoState
  have HI := Lib.hid (⟨hi, hz0, hz1, hz2⟩ : Try.prog.info? 48 = some i0 ∧ i0.zero = some (.agg #[.int .u64 0, .slice none 0 0]) ∧ i0.size = 2 ∧ i0.bytes = 32)
  clear hi hz0 hz1 hz2
  obtain ⟨B0, hB⟩ : ∃ B, w.heap.size = B := ⟨_, rfl⟩
  have HV := Lib.hid (fun W (hW : Below B0 w W) => h4.below (by rw [hB]; exact hW))
  have HE := Lib.hid (fun W (hW : Below B0 w W) => h5.below (by rw [hB]; exact hW))
  obtain ⟨aT, cT, rfl⟩ := h4.len
  obtain ⟨aE, cE, rfl⟩ := h5.len
  have HTR := Lib.hid hT.2
  have HMAY := Lib.hid (fun row b => tgtR_may hT row cls b)
  have HCC := Lib.hid hc
  have HAR := Lib.hid (fun i W => rarcs07_any (tgtR T i cls) W (fun b _ => tgtR_may hT i cls b))
  have HEQ := Lib.hid (fun i => tgtR_arcs T i cls)
  clear h4 h5 hT hc
  obtain ⟨I0, hI0⟩ : ∃ I0, U8s cls = I0 := ⟨_, rfl⟩
  obtain ⟨w1, hw1⟩ : ∃ w1, w.alloc (.cells I0 24) = w1 := ⟨_, rfl⟩
  have HU : Hid (UBlk w1 B0 cls) := Lib.hid (by rw [← hw1, ← hI0, ← hB]; exact UBlk.new w cls)
  have HBW : Hid (Below B0 w w1) := Lib.hid (by rw [← hw1, ← hB]; exact new_one w _)
  have hsz : w1.heap.size = B0 + 1 := by rw [← hw1]; simp [hB]
  obtain ⟨I1, hI1⟩ : ∃ I1, Ints (fun _ => 0) = I1 := ⟨_, rfl⟩
  have HI1 := Lib.hid hI1
  obtain ⟨gs, hgs⟩ : ∃ gs : Nat → Sta, (fun i => (⟨endE es i, arcsS (tgtT T i cls)⟩ : Sta)) = gs := ⟨_, rfl⟩
  have HSN := Lib.hid (fun i => range_snoc gs i)
  have HTT := Lib.hid (show backS T cls es = (List.range T.length).map gs from by rw [← hgs]; rfl)
  have HGS := Lib.hid (show ∀ i, gs i = ⟨endE es i, arcsS (tgtR T i cls)⟩ from fun i => by rw [← hgs, HEQ.out i])
  rw [hI0, hB]
  clear hI0 hgs HEQ
  go_enter Try.func17, Try.ntmps17
  go_wp2
  clear hw1
  obtain ⟨N1, hN1⟩ : ∃ N1, B0 + 1 = N1 := ⟨_, rfl⟩
  have HN1 := Lib.hid hN1
  rw [hN1] at hsz
  clear hN1
  go_loopw [7, 8, 9, 10, 11, 12] (fun u z _ _ _ _ wr => ∃ i : Nat, z = .int .i64 i ∧ i ≤ T.length ∧ N1 ≤ wr.heap.size ∧ Hid (∃ vs, RowsM wr N1 u vs ((List.range i).map gs)) ∧ Hid (UBlk wr B0 cls) ∧ Hid (Below B0 w wr)) (fun _ z _ _ _ _ _ => T.length - (intOf z).toNat)
  case atStart => exact ⟨0, rfl, Nat.zero_le _, by omega, Lib.hid ⟨[], RowsM.nil _ _⟩, HU, HBW⟩
  case round =>
    clear HU HBW hsz
    obtain ⟨i, rfl, hi, hNr, HR, HU, HBW⟩ := hrel
    by_cases hlt : i < T.length
    · have hd : decide ((i : Int) < T.length) = true := decide_eq_true (by omega)
      have hil : (i : Int) < T.length := by omega
      have HSI := Lib.hid (HSN.out i)
      obtain ⟨vs, hvs⟩ := HR.out
      have HVR := Lib.hid hvs
      have hlen : ((List.range i).map gs).length = i := by simp
      have hown := hvs.own
      rw [hlen] at hown
      obtain ⟨a3, cp3, rfl⟩ := row_form hown
      clear hown hvs HR
      obtain ⟨xs, hxs⟩ : ∃ xs, (List.range i).map gs = xs := ⟨_, rfl⟩
      rw [hxs] at HVR HSI hlen
      clear hxs
      rw [HGS.out i] at HSI
      have HLEN := Lib.hid hlen
      clear hlen
      obtain ⟨w0, hw0⟩ : ∃ w0, wr = w0 := ⟨_, rfl⟩
      rw [hw0] at HVR HU HBW hNr ⊢
      clear hw0
      obtain ⟨nb, hnb⟩ : ∃ nb, w0.heap.size = nb := ⟨_, rfl⟩
      have HNB := Lib.hid hnb
      obtain ⟨wa, hwa⟩ : ∃ wa, w0.alloc (.cells I1 64) = wa := ⟨_, rfl⟩
      have HIA : Hid (IBlk wa nb fun _ => 0) := Lib.hid (by rw [← hwa, ← HI1.out, ← hnb]; exact heap_alloc_new w0 _)
      have HBA : Hid (Below nb w0 wa) := Lib.hid (by rw [← hwa, ← hnb]; exact new_one w0 _)
      have hsa : nb + 1 ≤ wa.heap.size := by rw [← hwa]; simp [hnb]
      have hz := zero_i64s
      rw [hI1] at hz
      go_wp2
      clear hz hwa
      have HMB := Lib.hid (fun b => HMAY.out i b)
      obtain ⟨tr, htr⟩ : ∃ tr, tgtR T i cls = tr := ⟨_, rfl⟩
      have HTRE := Lib.hid htr
      have HAI := Lib.hid (HAR.out i)
      rw [htr] at HAI HSI HMB
      clear htr
      have hNB0 : B0 < nb := by have := HN1.out; omega
      have HNB0 := Lib.hid hNB0
      go_loopw [10, 11] (fun z _ ws => ∃ b : Nat, z = .int .i64 b ∧ b ≤ 256 ∧ nb + 1 ≤ ws.heap.size ∧ Hid (IBlk ws nb fun j => if j < b then tr j else 0) ∧ Hid (Below nb w0 ws)) (fun z _ _ => 256 - (intOf z).toNat)
      case atStart => exact ⟨0, rfl, Nat.zero_le _, hsa, Lib.hid (HIA.out.congr fun j _ => by rw [if_neg (by omega)]), HBA⟩
      case round =>
        clear HIA HBA hsa
        obtain ⟨b, rfl, hb, hsb, HIB, HBB⟩ := hrel
        by_cases hlb : b < 256
        · have hd2 : decide ((b : Int) < 256) = true := decide_eq_true (by omega)
          have hbi : (b : Int) < 256 := by omega
          have hbb : Below w0.heap.size w0 wr := by rw [HNB.out]; exact HBB.out
          have c0 := (HU.out.below hbb).cell hlb
          have hk256 := HCC.out b hlb
          have hfz : wr.frozen? ⟨nb, b, none⟩ = false := HIB.out.frozen
          have c1 := HIB.out.cell hlb
          have HSET := Lib.hid (HIB.out.set (k := b) (g := fun j => if j < b then tr j else if j = b then -1 else 0) (v := -1) (by rw [if_neg (by omega), if_pos rfl]) (fun j _ hne => by
            by_cases h : j < b
            · rw [if_pos h, if_pos h]
            · rw [if_neg h, if_neg h, if_neg hne]))
          have HBS := Lib.hid (HBB.out.setCell (p := ⟨nb, b, none⟩) (Nat.le_refl nb) (.int .i64 (-1)))
          have hss : nb + 1 ≤ (wr.setCell ⟨nb, b, none⟩ (.int .i64 (-1))).heap.size := by simp; omega
          have HTV := Lib.hid (show tr b = if h' : cls b < T[i].length then (if T[i][cls b] < T.length then T[i][cls b] else -1) else -1 from by
            rw [← HTRE.out]; unfold tgtR; rw [dif_pos hlt])
          have HTA := Lib.hid (HV.out w0 HBW.out)
          obtain ⟨bT, oT, rv, rfl, e0, hrow⟩ := HTA.out.at rfl hlt
          have hrl := (HTR.out T[i] (List.getElem_mem hlt)).1
          generalize T[i] = l at *
          obtain ⟨ar, cr, rfl⟩ := hrow.len
          have HROW := Lib.hid hrow
          clear hrow
          generalize cls b = k at *
          go_upto_region 11 with fail
          clear c0 c1 hfz hbb
          obtain ⟨ws, hws⟩ : ∃ ws, wr.setCell ⟨nb, b, none⟩ (.int .i64 (-1)) = ws := ⟨_, rfl⟩
          rw [hws] at HSET HBS hss ⊢
          clear hws HIB HBB
          have hbs : Below w0.heap.size w0 ws := by rw [HNB.out]; exact HBS.out
          replace e0 := cell_below hbs e0
          by_cases hkl : k < l.length
          · have g1 : decide ((k : Int) < l.length) = true := decide_eq_true (by omega)
            have hki : (k : Int) < l.length := by omega
            obtain ⟨b3, o3, rfl, e1⟩ := HROW.out.at rfl hkl
            replace e1 := cell_below hbs e1
            have HT2 := Lib.hid (HTV.out.trans (dif_pos hkl))
            generalize l[k] = x at *
            clear hbs HTV
            by_cases hx : x < T.length
            · have g2 : decide (x < (T.length : Int)) = true := decide_eq_true hx
              have HT3 := Lib.hid (HT2.out.trans (if_pos hx))
              have hfz : ws.frozen? ⟨nb, b, none⟩ = false := HSET.out.frozen
              have c1 := HSET.out.cell hlb
              clear HT2 hx
              go_wp2
              exact ⟨⟨b + 1, rfl, hlb, by simp; omega, Lib.hid (HSET.out.set (k := b) (by rw [if_pos (by omega)]; exact HT3.out) (fun j _ hne => by
                by_cases h : j < b
                · rw [if_pos h, if_pos (by omega)]
                · rw [if_neg h, if_neg hne, if_neg (by omega)])), Lib.hid (HBS.out.setCell (Nat.le_refl nb) _)⟩, by simp only [intOf]; omega⟩
            · have g2 : decide (x < (T.length : Int)) = false := decide_eq_false hx
              have HT3 := Lib.hid (HT2.out.trans (if_neg hx))
              clear HT2 hx
              go_wp2
              exact ⟨⟨b + 1, rfl, hlb, hss, Lib.hid (HSET.out.congr fun j _ => by
                by_cases h : j < b
                · rw [if_pos h, if_pos (by omega)]
                · by_cases e : j = b
                  · rw [if_neg h, if_pos e, if_pos (by omega), e, HT3.out]
                  · rw [if_neg h, if_neg e, if_neg (by omega)]), HBS⟩, by simp only [intOf]; omega⟩
          · have g1 : decide ((k : Int) < l.length) = false := decide_eq_false (by omega)
            have g3 : decide (k < l.length) = false := decide_eq_false hkl
            have HT3 := Lib.hid (HTV.out.trans (dif_neg hkl))
            clear HTV hkl hbs
            go_wp2
            exact ⟨⟨b + 1, rfl, hlb, hss, Lib.hid (HSET.out.congr fun j _ => by
              by_cases h : j < b
              · rw [if_pos h, if_pos (by omega)]
              · by_cases e : j = b
                · rw [if_neg h, if_pos e, if_pos (by omega), e, HT3.out]
                · rw [if_neg h, if_neg e, if_neg (by omega)]), HBS⟩, by simp only [intOf]; omega⟩
        · obtain rfl : b = 256 := by omega
          have hd2 : decide (((256 : Nat) : Int) < 256) = false := by simp
          replace HIB := Lib.hid (HIB.out.congr (g := tr) fun j hj => by rw [if_pos hj])
          have HA1 := Lib.hid (HAI.out wr)
          obtain ⟨al, hal⟩ : ∃ al, (arcsS tr).length = al := ⟨_, rfl⟩
          have HAL := Lib.hid hal
          rw [hal] at HA1
          clear hal
          go_upto_region 14 with (first
            | (refine wpList_load_ints nb tr HIB.out rfl _ rfl rfl ?_)
            | (go_at_call 37; (with_reducible refine HA1.out.mono ?_); rintro e w6 ⟨v6, rfl, hr6, hb6⟩; obtain ⟨a6, c6, rfl⟩ := row_form hr6.out))
          obtain ⟨n6, hn6⟩ : ∃ n6, w6.heap.size = n6 := ⟨_, rfl⟩
          obtain ⟨w7, hw7⟩ : ∃ w7, w6.alloc (.cells #[.int .u64 0, .slice a6 al c6] 48) = w7 := ⟨_, rfl⟩
          have hb67 : Below w6.heap.size w6 w7 := by rw [← hw7]; exact new_one w6 _
          have hq7 : w7.heap[n6]? = some (.cells #[.int .u64 0, .slice a6 al c6] 48 (0, 0)) := by rw [← hw7, ← hn6]; exact heap_alloc_new w6 _
          have hs56 := hb6.out.size
          have hb07 : Below nb w0 w7 := HBB.out.trans ((hb6.out.trans (hb67.mono hs56)).mono (by omega))
          have HR7 := Lib.hid (own_weak (own_below hr6.out hb67) (show N1 ≤ wr.heap.size by have := HN1.out; have := HNB0.out; omega))
          have hB7 : Below B0 w w7 := HBW.out.trans (hb07.mono (by have := HNB0.out; omega))
          have HB07 := Lib.hid hb07
          have HBW7 := Lib.hid hB7
          have HE7 := Lib.hid (HE.out w7 hB7)
          have HQ7 := Lib.hid hq7
          have h6 : nb ≤ n6 := by omega
          have hs7 : n6 + 1 ≤ w7.heap.size := by rw [← hw7]; simp [hn6]
          rw [hn6, hw7]
          clear hw7 hb67 hq7 hb07 hr6 hb6 hB7 HIB HBB hs56 HA1 hn6
          by_cases hrow : i < es.length
          · have hd3 : decide ((i : Int) < es.length) = true := decide_eq_true (by omega)
            have hri : (i : Int) < es.length := by omega
            obtain ⟨bE, oE, rfl, e1⟩ := HE7.out.at rfl hrow
            have HEE := Lib.hid (endE_at hrow)
            generalize es[i] = x at *
            have k0 : w7.cell? ⟨n6, 0, none⟩ = some (.int .u64 0) := (cell_of_row w7 n6 0 _ _ _ HQ7.out).trans rfl
            have k3 : w7.frozen? ⟨n6, 0, none⟩ = false := frozen_row HQ7.out
            go_upto_region 16 with fail
            clear k0 k3 e1
            obtain ⟨w8, hw8⟩ : ∃ w8, w7.setCell ⟨n6, 0, none⟩ (.int .u64 (x : Nat)) = w8 := ⟨_, rfl⟩
            have HQ : Hid (w8.heap[n6]? = some (.cells #[.int .u64 (x : Nat), .slice a6 al c6] 48 (0, 0))) := Lib.hid (by rw [← hw8]; exact set2 HQ7.out _)
            have HB8 : Hid (Below nb w0 w8) := Lib.hid (by rw [← hw8]; exact HB07.out.setCell h6 _)
            have hs8 : n6 + 1 ≤ w8.heap.size := by rw [← hw8]; simp; exact hs7
            have HR8 : Hid (w8.ownsRow N1 50 3 (.slice a6 al c6) al (flatA (arcsS tr))) := Lib.hid (by
              rw [← hw8]
              refine row_keep HR7.out fun g cs hg hgc => ?_
              have hne : g ≠ n6 := fun e => by
                subst e
                rw [HQ7.out] at hgc
                injection hgc with hgc
                injection hgc with _ hgc _
                exact absurd hgc (by decide)
              exact (Below.heap_setCell _ _ _ _ hne).trans hgc)
            rw [hw8]
            clear hw8 HQ7 HB07 HR7 HBW7
            have k0 : w8.cell? ⟨n6, 0, none⟩ = some (.int .u64 (x : Nat)) := (cell_of_row w8 n6 0 _ _ _ HQ.out).trans rfl
            have k1 : w8.cell? ⟨n6, 1, none⟩ = some (.slice a6 al c6) := (cell_of_row w8 n6 1 _ _ _ HQ.out).trans rfl
            have hb8 : Below w0.heap.size w0 w8 := by rw [HNB.out]; exact HB8.out
            have HV8 := Lib.hid (HVR.out.below hb8)
            have HU8 := Lib.hid (HU.out.below hb8)
            have HBw8 := Lib.hid (HBW.out.trans (HB8.out.mono (Nat.le_of_lt HNB0.out)))
            have HROw8 : Hid (w8.ownsRow N1 48 2 (.slice a3 i cp3) i (flatM vs)) := Lib.hid (by have := HV8.out.own; rw [HLEN.out] at this; exact this)
            have HRA := Lib.hid (HROw8.out.alloc (.cells #[.int .u64 (x : Nat), .slice a6 al c6] 48))
            have hN8 : N1 ≤ w8.heap.size := by have := HN1.out; have := HNB0.out; omega
            have hBN : B0 < N1 := by have := HN1.out; omega
            have HSX := Lib.hid (show xs ++ [(⟨endE es i, arcsS tr⟩ : Sta)] = xs ++ [⟨x, arcsS tr⟩] from by rw [HEE.out])
            clear hb8
            go_wp2_with (at_builtin; refine wpList_append_lies _ rfl _ _ 23 rfl N1 48 i0 (.agg #[.int .u64 0, .slice none 0 0]) 2 32 Try.underlying23 HI.out.1 HI.out.2.1 HI.out.2.2.1 HI.out.2.2.2 rfl (by decide) (.slice a3 i cp3) i (flatM vs) rfl HRA.out ⟨w8.heap.size, 0, none⟩ 1 1 [.int .u64 (x : Nat), .slice a6 al c6] rfl rfl (news_in (cs := #[.int .u64 (x : Nat), .slice a6 al c6]) (heap_alloc_new w8 _)) (by simp [Value.oneCell']) (by omega) (by unfold maxLen; omega) (by omega) (by simp; omega) (w8.heap.size + 1) (by simp) ?_; intro g2 cap2 w9 h2 h3 h4 h5; have HP1 := Lib.hid (push3 HBw8.out HROw8.out (Nat.le_of_lt hBN) (Nat.le_trans (Nat.le_of_lt hBN) hN8) ((Below.refl _ _).alloc (Nat.le_refl _) _) h3); have hsz8 := h3.size; have HP4 := Lib.hid (ublk_push HU8.out HROw8.out hBN ((Below.refl _ _).alloc (Nat.le_refl _) _) h3); have HP3 := Lib.hid (RowsM.push (s := ⟨x, arcsS tr⟩) HV8.out (show w8.ownsRow N1 _ 3 (.slice a6 al c6) (arcsS tr).length (flatA (arcsS tr)) from by rw [HAL.out]; exact HR8.out) ((Below.refl _ _).alloc (Nat.le_refl _) _) h3 (by rw [HLEN.out]; exact h2)); clear h2 h3 h4 h5)
            exact ⟨⟨i + 1, rfl, hlt, by simp at hsz8; omega, Lib.hid ⟨_, by rw [HSI.out, HSX.out]; exact HP3.out⟩, HP4, HP1⟩, by simp only [intOf]; omega⟩
          · have hd3 : decide ((i : Int) < es.length) = false := decide_eq_false (by omega)
            have hdn3 : decide (i < es.length) = false := decide_eq_false hrow
            have HEE := Lib.hid (endE_far hrow)
            clear hrow
            go_upto_region 16 with fail
            have HQ := HQ7
            have HB8 := HB07
            have HR8 := HR7
            have hs8 := hs7
            have k0 : w7.cell? ⟨n6, 0, none⟩ = some (.int .u64 0) := (cell_of_row w7 n6 0 _ _ _ HQ.out).trans rfl
            have k1 : w7.cell? ⟨n6, 1, none⟩ = some (.slice a6 al c6) := (cell_of_row w7 n6 1 _ _ _ HQ.out).trans rfl
            have hb8 : Below w0.heap.size w0 w7 := by rw [HNB.out]; exact HB8.out
            have HV8 := Lib.hid (HVR.out.below hb8)
            have HU8 := Lib.hid (HU.out.below hb8)
            have HBw7 := Lib.hid (HBW.out.trans (HB8.out.mono (Nat.le_of_lt HNB0.out)))
            have HROw7 : Hid (w7.ownsRow N1 48 2 (.slice a3 i cp3) i (flatM vs)) := Lib.hid (by have := HV8.out.own; rw [HLEN.out] at this; exact this)
            have HRA := Lib.hid (HROw7.out.alloc (.cells #[.int .u64 0, .slice a6 al c6] 48))
            have hN8 : N1 ≤ w7.heap.size := by have := HN1.out; have := HNB0.out; omega
            have hBN : B0 < N1 := by have := HN1.out; omega
            have HSX := Lib.hid (show xs ++ [(⟨endE es i, arcsS tr⟩ : Sta)] = xs ++ [⟨0, arcsS tr⟩] from by rw [HEE.out])
            clear hb8
            go_wp2_with (at_builtin; refine wpList_append_lies _ rfl _ _ 23 rfl N1 48 i0 (.agg #[.int .u64 0, .slice none 0 0]) 2 32 Try.underlying23 HI.out.1 HI.out.2.1 HI.out.2.2.1 HI.out.2.2.2 rfl (by decide) (.slice a3 i cp3) i (flatM vs) rfl HRA.out ⟨w7.heap.size, 0, none⟩ 1 1 [.int .u64 0, .slice a6 al c6] rfl rfl (news_in (cs := #[.int .u64 0, .slice a6 al c6]) (heap_alloc_new w7 _)) (by simp [Value.oneCell']) (by omega) (by unfold maxLen; omega) (by omega) (by simp; omega) (w7.heap.size + 1) (by simp) ?_; intro g2 cap2 w9 h2 h3 h4 h5; have HP1 := Lib.hid (push3 HBw7.out HROw7.out (Nat.le_of_lt hBN) (Nat.le_trans (Nat.le_of_lt hBN) hN8) ((Below.refl _ _).alloc (Nat.le_refl _) _) h3); have hsz8 := h3.size; have HP4 := Lib.hid (ublk_push HU8.out HROw7.out hBN ((Below.refl _ _).alloc (Nat.le_refl _) _) h3); have HP3 := Lib.hid (RowsM.push (s := ⟨0, arcsS tr⟩) HV8.out (show w7.ownsRow N1 _ 3 (.slice a6 al c6) (arcsS tr).length (flatA (arcsS tr)) from by rw [HAL.out]; exact HR8.out) ((Below.refl _ _).alloc (Nat.le_refl _) _) h3 (by rw [HLEN.out]; exact h2)); clear h2 h3 h4 h5)
            exact ⟨⟨i + 1, rfl, hlt, by simp at hsz8; omega, Lib.hid ⟨_, by rw [HSI.out, HSX.out]; exact HP3.out⟩, HP4, HP1⟩, by simp only [intOf]; omega⟩
    · obtain rfl : i = T.length := by omega
      have hd : decide ((T.length : Int) < T.length) = false := by simp
      obtain ⟨vs, hvs⟩ := HR.out
      have HVR := Lib.hid hvs
      clear hvs HR
      rw [← HTT.out] at HVR
      go_wp2
      exact bodyPost_ret (v := u7) (by simp [results, Try.results17, go_sem, *]) rfl ⟨u7, vs, rfl, Lib.hid ⟨HVR.out.len, own_weak HVR.out.own (by have := HN1.out; omega), HVR.out.acc, fun j h1 h2 => own_weak (HVR.out.row j h1 h2) (by have := HN1.out; omega)⟩, HBW⟩
end Go.Proofs.Ytiikmpgadmmjeaa
