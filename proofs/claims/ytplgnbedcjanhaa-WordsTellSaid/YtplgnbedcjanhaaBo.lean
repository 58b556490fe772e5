/- Contracts: write, Join, of words; Join, Same of the reference; plain of the law. -/
import Derived.Test.YtplgnbedcjanhaaBn
import Derived.Test.YtplgnbedcjanhaaBj
import Derived.Deep.RegionLaw
import Derived.Deep.QuietTactic
set_option maxRecDepth 100000
namespace Go.Proofs.Ytplgnbedcjanhaa
open Go.RowKit

theorem i_yes {x c : Int} (h : x = c) : (x == c) = true := by rw [beq_iff_eq]; exact h
theorem i_no {x c : Int} (h : ¬ x = c) : (x == c) = false := by rw [beq_eq_false_iff_ne]; exact h
theorem in_no {x c : Int} (h : x = c) : (x != c) = false := by rw [bne, i_yes h]; rfl
theorem in_yes {x c : Int} (h : ¬ x = c) : (x != c) = true := by rw [bne, i_no h]; rfl
/-- A row of words, to be read. -/
def WsAt (w : World) (v : Value) (ws : List Wd) : Prop := ∃ a c, v = .slice a ws.length c ∧ ws.length ≤ c ∧ ∀ i (h : i < ws.length), ∃ b o, a = some ⟨b, o, none⟩ ∧ w.cell? ⟨b, o + i * 3, none⟩ = some (.int .i64 ws[i].kind) ∧ w.cell? ⟨b, o + i * 3 + 1, none⟩ = some (.string (strOf ws[i].txt)) ∧ w.cell? ⟨b, o + i * 3 + 2, none⟩ = some (.int .i64 (ws[i].pos : Nat))
theorem WsAt.below {w w' : World} {v : Value} {ws : List Wd} (h : WsAt w v ws) (hb : Below w.heap.size w w') : WsAt w' v ws := by
  obtain ⟨a, c, e, hc, h1⟩ := h
  exact ⟨a, c, e, hc, fun i hi => by
    obtain ⟨b, o, e1, e2, e3, e4⟩ := h1 i hi
    exact ⟨b, o, e1, cell_below hb e2, cell_below hb e3, cell_below hb e4⟩⟩
theorem WsAt.at {w : World} {a : Option Addr} {n c : Nat} {ws : List Wd} (h : WsAt w (.slice a n c) ws) {i : Nat} (hi : i < ws.length) : ∃ b o, a = some ⟨b, o, none⟩ ∧ w.cell? ⟨b, o + i * 3, none⟩ = some (.int .i64 ws[i].kind) ∧ w.cell? ⟨b, o + i * 3 + 1, none⟩ = some (.string (strOf ws[i].txt)) ∧ w.cell? ⟨b, o + i * 3 + 2, none⟩ = some (.int .i64 (ws[i].pos : Nat)) := by
  obtain ⟨a', c', e, _, h1⟩ := h
  cases e
  exact h1 i hi
theorem flatW_len (ws : List Wd) : (flatW ws).length = ws.length * 3 := by
  induction ws with
  | nil => rfl
  | cons x ws ih => simp [flatW, wdC] at ih ⊢; omega
theorem flatW_at : ∀ (ws : List Wd) (i : Nat) (h : i < ws.length), (flatW ws)[i * 3]? = some (.int .i64 ws[i].kind) ∧ (flatW ws)[i * 3 + 1]? = some (.string (strOf ws[i].txt)) ∧ (flatW ws)[i * 3 + 2]? = some (.int .i64 (ws[i].pos : Nat))
  | [], i, h => by simp at h
  | x :: ws, 0, _ => ⟨rfl, rfl, rfl⟩
  | x :: ws, i + 1, h => by
    have ih := flatW_at ws i (by simpa using h)
    have e : flatW (x :: ws) = wdC x ++ flatW ws := by simp [flatW]
    have hl : (wdC x).length = 3 := rfl
    rw [e, List.getElem?_append_right (by omega), List.getElem?_append_right (by omega), List.getElem?_append_right (by omega), hl]
    rw [show (i + 1) * 3 - 3 = i * 3 by omega, show (i + 1) * 3 + 1 - 3 = i * 3 + 1 by omega, show (i + 1) * 3 + 2 - 3 = i * 3 + 2 by omega]
    exact ih
theorem ws_row {w : World} {B : Nat} {e : TypeId} {v : Value} {ws : List Wd} {n : Nat} (h : w.ownsRow B e 3 v n (flatW ws)) (hn : ws.length = n) : WsAt w v ws := by
  subst hn
  rcases h.2 with ⟨rfl, h1⟩ | ⟨g, cap, cur, rfl, _, hg, hc, _, _, hct⟩
  · have : ws = [] := List.eq_nil_of_length_eq_zero h1
    subst this
    exact ⟨none, 0, rfl, Nat.le_refl _, fun i hi => by simp at hi⟩
  · have hcell : ∀ j u, (flatW ws)[j]? = some u → w.cell? ⟨g, j, none⟩ = some u := fun j u hj => by
      rw [cell_of_row w g j _ _ _ hg]
      rw [← hct, List.getElem?_take] at hj
      split at hj
      · simpa using hj
      · cases hj
    exact ⟨_, cap, rfl, hc, fun i hi => by
      obtain ⟨h1, h2, h3⟩ := flatW_at ws i hi
      refine ⟨g, 0, rfl, ?_, ?_, ?_⟩
      · rw [Nat.zero_add]; exact hcell _ _ h1
      · rw [Nat.zero_add]; exact hcell _ _ h2
      · rw [Nat.zero_add]; exact hcell _ _ h3⟩
/-- Bytes as the library has them. -/
def u8L (l : List Nat) : List UInt8 := l.map UInt8.ofNat
theorem u8L_append (a b : List Nat) : u8L (a ++ b) = u8L a ++ u8L b := by simp [u8L]
theorem u8L_len (a : List Nat) : (u8L a).length = a.length := by simp [u8L]
theorem u8L_str (l : List Nat) : (⟨(u8L l).toArray⟩ : ByteArray) = strOf l := rfl
theorem bldAt_below {T e : TypeId} {B b : Nat} {p : Value} {bs : List Value} {w w' : World} (h : Lib.BuilderAtF T e B b p bs w) (hb : Below w.heap.size w w') : Lib.BuilderAtF T e B b p bs w' := by
  have hlt := h.lt
  obtain ⟨hB, v, h1, h2, h3⟩ := h
  refine ⟨hB, v, (hb.block b hlt).trans h1, ⟨h2.1, ?_⟩, h3⟩
  rcases h2.2 with hn | ⟨g, cap, cur, fz, hv, hg, hgb, rest⟩
  · exact .inl hn
  · exact .inr ⟨g, cap, cur, fz, hv, hg, (hb.block g (lt_of_block hgb)).trans hgb, rest⟩
theorem Bld.below {w w' : World} {B b : Nat} {l : List UInt8} (h : Bld w B b l) (hb : Below w.heap.size w w') : Bld w' B b l :=
  h.elim (fun x => .inl (bldAt_below x hb)) (fun x => .inr (bldAt_below x hb))
theorem kept_wd {b : Nat} {w w' : World} {k : Nat} {x : Wd} (h : WdAt w k x) (hk : Lib.OthersKept 5 (some b) w w') (hne : k ≠ b) : WdAt w' k x := hk k _ h (fun e => hne (by simpa using e)) (fun c fz e => absurd (Obj.cells.inj e).2.1 (by decide))
set_option maxHeartbeats 4000000 in
theorem write_any (B b : Nat) (L : List Nat) (x : Wd) (w : World) (h : Bld w B b (u8L L)) (hlen : L.length + (outW x).length ≤ 99990) (hBw : B ≤ w.heap.size) (hbw : b < w.heap.size) :
    Calls Try.prog 28 #[.pointer (some ⟨b, 0, none⟩), wdV x] w fun e w' => e = .returned (.tuple #[]) ∧ Hid (Bld w' B b (u8L (L ++ outW x))) ∧ Hid (Below B w w') := by
  have hX : WdAt (w.alloc (.cells #[.int .i64 x.kind, .string (strOf x.txt), .int .i64 (x.pos : Nat)] 35)) w.heap.size x := heap_alloc_new w _
  have hB1 := h.below (new_one w (.cells #[.int .i64 x.kind, .string (strOf x.txt), .int .i64 (x.pos : Nat)] 35))
  have HB0 : Hid (Below B w (w.alloc (.cells #[.int .i64 x.kind, .string (strOf x.txt), .int .i64 (x.pos : Nat)] 35))) := Lib.hid ((Below.refl _ _).alloc hBw _)
  have hne : w.heap.size ≠ b := by omega
  obtain ⟨c0, c1, c2⟩ := hX.cells
  by_cases h2 : x.kind = 2
  · have e2 : (x.kind != 2) = false := in_no h2
    have ho : outW x = [47] ++ (x.txt ++ [47]) := by unfold outW; rw [if_pos h2]; rfl
    rw [ho] at hlen ⊢
    simp only [List.length_append, List.length_cons, List.length_nil] at hlen
    have HW1 := Lib.hid (write_byte B b (u8L L) 47 47 rfl _ hB1 (by rw [u8L_len]; omega) (by simp; omega))
    go_enter Try.func28, Try.ntmps28
    dsimp only [wdV]
    clear h2 ho h hB1
    go_upto_region 4 with (go_at_call 27; (with_reducible refine HW1.out.mono ?_); rintro e w1 ⟨rfl, hw1, hb1, hk1, hs1⟩)
    have hX1 := kept_wd hX hk1 hne
    obtain ⟨d0, d1, d2⟩ := hX1.cells
    have HW2 := Lib.hid (write_string B b (u8L L ++ [47]) (u8L x.txt) w1 hw1 (by simp only [List.length_append, u8L_len, List.length_cons, List.length_nil]; omega) hs1)
    rw [u8L_str] at HW2
    clear c0 c1 c2 HW1
    go_upto_region 5 with (go_at_call 39; (with_reducible refine HW2.out.mono ?_); rintro e w2 ⟨rfl, hw2, hb2, hk2, hs2⟩)
    have HW3 := Lib.hid (write_byte B b (u8L L ++ [47] ++ u8L x.txt) 47 47 rfl w2 hw2 (by simp only [List.length_append, u8L_len, List.length_cons, List.length_nil]; omega) hs2)
    go_wp2_with (go_at_call 27; (with_reducible refine HW3.out.mono ?_); rintro e w3 ⟨rfl, hw3, hb3, hk3, hs3⟩)
    go_end0
    refine ⟨rfl, Lib.hid ?_, Lib.hid (((HB0.out.trans hb1).trans hb2).trans hb3)⟩
    have e9 : u8L (L ++ ([47] ++ (x.txt ++ [47]))) = u8L L ++ [47] ++ u8L x.txt ++ [47] := by simp [u8L]
    rw [← e9] at hw3; exact hw3
  · have e2 : (x.kind != 2) = true := in_yes h2
    have ho : outW x = x.txt := by unfold outW; rw [if_neg h2]
    rw [ho] at hlen ⊢
    have HW1 := Lib.hid (write_string B b (u8L L) (u8L x.txt) _ hB1 (by rw [u8L_len, u8L_len]; omega) (by simp; omega))
    rw [u8L_str] at HW1
    go_enter Try.func28, Try.ntmps28
    dsimp only [wdV]
    clear h2 ho h hB1
    go_wp2_with (go_at_call 39; (with_reducible refine HW1.out.mono ?_); rintro e w1 ⟨rfl, hw1, hb1, hk1, hs1⟩)
    refine bodyPost_ret (results_none rfl _ _ _) rfl ⟨rfl, Lib.hid ?_, Lib.hid (HB0.out.trans hb1)⟩
    rw [u8L_append]; exact hw1
theorem joinL_take {ws : List Wd} {k : Nat} (h : k < ws.length) : joinL (ws.take (k + 1)) = if k = 0 then outW ws[k] else joinL (ws.take k) ++ 32 :: outW ws[k] := by
  rw [List.take_succ_eq_append_getElem h, joinL_snoc]
  by_cases hk : k = 0
  · subst hk; rw [if_pos (by simp), if_pos rfl]
  · rw [if_neg (by
      intro e
      have h3 : (ws.take k).length = 0 := by rw [e]; rfl
      rw [List.length_take] at h3
      omega), if_neg hk]
theorem joinL_mono (ws : List Wd) : ∀ n k, ws.length - k ≤ n → (joinL (ws.take k)).length ≤ (joinL ws).length
  | 0, k, h => by rw [List.take_of_length_le (by omega)]; exact Nat.le_refl _
  | n + 1, k, h => by
    by_cases hk : k < ws.length
    · have ih := joinL_mono ws n (k + 1) (by omega)
      rw [joinL_take hk] at ih
      by_cases h0 : k = 0
      · subst h0; rw [List.take_zero]; exact Nat.zero_le _
      · rw [if_neg h0, List.length_append] at ih; omega
    · rw [List.take_of_length_le (by omega)]; exact Nat.le_refl _
set_option maxHeartbeats 8000000 in
theorem join_any (v : Value) (ws : List Wd) (w : World) (h : WsAt w v ws) (hn : ws.length ≤ 1000000) (hlen : (joinL ws).length ≤ 90000) :
    Calls Try.prog 16 #[v] w fun e w' => e = .returned (.string (strOf (joinL ws))) ∧ Hid (Below w.heap.size w w') := by
  have HA := Lib.hid h
  obtain ⟨a, c, rfl, hc, _⟩ := h
  have HLN := Lib.hid hlen
  obtain ⟨N, hN⟩ : ∃ N, w.heap.size = N := ⟨_, rfl⟩
  have HN := Lib.hid hN
  have HB0 : Hid (Bld (w.alloc (.cells #[.pointer none, .slice none 0 0] 54)) N N (u8L [])) := Lib.hid (by rw [← hN]; exact bld_new w)
  have HBW : Hid (Below N w (w.alloc (.cells #[.pointer none, .slice none 0 0] 54))) := Lib.hid (by rw [← hN]; exact new_one w _)
  have HSZ : Hid (N < (w.alloc (.cells #[.pointer none, .slice none 0 0] 54)).heap.size) := Lib.hid (by simp; omega)
  rw [hN]
  clear hlen
  go_enter Try.func16, Try.ntmps16
  go_wp2_with fail
  clear hN
  go_loopw [8] (fun z wr => ∃ k : Nat, z = .int .i64 k ∧ k ≤ ws.length ∧ Hid (Bld wr N N (u8L (joinL (ws.take k)))) ∧ Hid (Below N w wr) ∧ Hid (N < wr.heap.size)) (fun z _ => ws.length - (intOf z).toNat)
  case atStart => exact ⟨0, rfl, Nat.zero_le _, HB0, HBW, HSZ⟩
  case round =>
    obtain ⟨k, rfl, hk, HB, HW, HS⟩ := hrel
    clear HB0 HBW HSZ
    by_cases hlt : k < ws.length
    · have hd : decide ((k : Int) < ws.length) = true := decide_eq_true (by omega)
      have hki : (k : Int) < ws.length := by omega
      have hA := HA.out
      have hAr : WsAt wr (.slice a ws.length c) ws := by
        obtain ⟨a', c', e', hc', h1⟩ := hA
        cases e'
        exact ⟨_, _, rfl, hc', fun i hi => by
          obtain ⟨b, o, e1, e2, e3, e4⟩ := h1 i hi
          have hbl : b < w.heap.size := cell_lt e2
          have hbN : b < N := by have := HN.out; omega
          exact ⟨b, o, e1, (HW.out.cell (p := ⟨b, _, none⟩) hbN).trans e2, (HW.out.cell (p := ⟨b, _, none⟩) hbN).trans e3, (HW.out.cell (p := ⟨b, _, none⟩) hbN).trans e4⟩⟩
      obtain ⟨b, o, rfl, c0, c1, c2⟩ := hAr.at hlt
      have hj := joinL_take hlt
      have hm := joinL_mono ws ws.length (k + 1) (by omega)
      have HML := Lib.hid (Nat.le_trans hm HLN.out)
      generalize ws[k] = x at *
      have hX : WdAt (wr.alloc (.cells #[.int .i64 x.kind, .string (strOf x.txt), .int .i64 (x.pos : Nat)] 35)) wr.heap.size x := heap_alloc_new wr _
      have HX := Lib.hid hX
      have HBA := Lib.hid (HB.out.below (new_one wr (.cells #[.int .i64 x.kind, .string (strOf x.txt), .int .i64 (x.pos : Nat)] 35)))
      have HWA : Hid (Below N w (wr.alloc (.cells #[.int .i64 x.kind, .string (strOf x.txt), .int .i64 (x.pos : Nat)] 35))) := Lib.hid (HW.out.alloc (by have := HS.out; omega) _)
      have HSA : Hid (N < (wr.alloc (.cells #[.int .i64 x.kind, .string (strOf x.txt), .int .i64 (x.pos : Nat)] 35)).heap.size) := Lib.hid (by have := HS.out; simp; omega)
      have HJ := Lib.hid hj
      obtain ⟨x0, x1, x2⟩ := hX.cells
      clear hA hAr hj hm hX
      by_cases h0 : k = 0
      · subst h0
        simp only [Nat.zero_mul, Nat.add_zero] at c0 c1 c2
        have HML : Hid ((joinL (ws.take 1)).length ≤ 90000) := HML
        have HJ2 : Hid (joinL (ws.take 1) = joinL (ws.take 0) ++ outW x) := Lib.hid (by have := HJ.out; rw [if_pos rfl] at this; rw [this, List.take_zero]; rfl)
        have HWR := Lib.hid (write_any N N (joinL (ws.take 0)) x _ HBA.out (by rw [← List.length_append, ← HJ2.out]; have := HML.out; omega) (by have := HSA.out; omega) HSA.out)
        dsimp only [wdV] at HWR
        go_wp2_with (go_at_call 28; (with_reducible refine HWR.out.mono ?_); rintro e w5 ⟨rfl, hb5, hw5⟩)
        go_roundw
        case rel => exact ⟨1, rfl, hlt, by rw [HJ2.out]; exact hb5, Lib.hid (HWA.out.trans hw5.out), Lib.hid (Nat.lt_of_lt_of_le HSA.out hw5.out.size)⟩
        case measure => simp only [intOf]; omega
      · have d1 : decide ((k : Int) > 0) = true := decide_eq_true (by omega)
        have d2 : decide ((0 : Int) < k) = true := decide_eq_true (by omega)
        have d3 : 0 < k := by omega
        have HJ2 : Hid (joinL (ws.take (k + 1)) = (joinL (ws.take k) ++ [32]) ++ outW x) := Lib.hid (by have := HJ.out; rw [if_neg h0] at this; rw [this, List.append_assoc]; rfl)
        have HL2 : Hid (((joinL (ws.take k) ++ [32]) ++ outW x).length ≤ 90000) := Lib.hid (by rw [← HJ2.out]; exact HML.out)
        have HWB := Lib.hid (write_byte N N (u8L (joinL (ws.take k))) 32 32 rfl _ HBA.out (by rw [u8L_len]; have := HL2.out; simp only [List.length_append, List.length_cons, List.length_nil] at this; omega) (by have := HSA.out; omega))
        have HWR : Hid (∀ W, Bld W N N (u8L (joinL (ws.take k)) ++ [32]) → N < W.heap.size → Calls Try.prog 28 #[.pointer (some ⟨N, 0, none⟩), .agg #[.int .i64 x.kind, .string (strOf x.txt), .int .i64 (x.pos : Nat)]] W fun e w' => e = .returned (.tuple #[]) ∧ Hid (Bld w' N N (u8L ((joinL (ws.take k) ++ [32]) ++ outW x))) ∧ Hid (Below N W w')) := Lib.hid (fun W hb hs => write_any N N (joinL (ws.take k) ++ [32]) x W (by rw [u8L_append]; exact hb) (by rw [← List.length_append]; have := HL2.out; omega) (by omega) hs)
        have HNE : Hid (wr.heap.size ≠ N) := Lib.hid (by have := HS.out; omega)
        go_wp2_with (first
          | (go_at_call 27; (with_reducible refine HWB.out.mono ?_); rintro e w4 ⟨rfl, hb4, hw4, hk4, hs4⟩; obtain ⟨y0, y1, y2⟩ := (kept_wd HX.out hk4 HNE.out).cells; have HS4 := Lib.hid (Nat.lt_of_lt_of_le HSA.out hw4.size); have HWR4 := Lib.hid (HWR.out w4 hb4 HS4.out))
          | (go_at_call 28; (with_reducible refine HWR4.out.mono ?_); rintro e w5 ⟨rfl, hb5, hw5⟩))
        go_roundw
        case rel => exact ⟨k + 1, rfl, hlt, by rw [HJ2.out]; exact hb5, Lib.hid ((HWA.out.trans hw4).trans hw5.out), Lib.hid (Nat.lt_of_lt_of_le HS4.out hw5.out.size)⟩
        case measure => simp only [intOf]; omega
    · obtain rfl : k = ws.length := by omega
      have hd : decide ((ws.length : Int) < ws.length) = false := by simp
      have HB2 : Hid (Bld wr N N (u8L (joinL ws))) := Lib.hid (by have := HB.out; rw [List.take_of_length_le (Nat.le_refl _)] at this; exact this)
      have HST := Lib.hid (string_bld N N (u8L (joinL ws)) wr HB2.out (by have := HS.out; omega))
      rw [u8L_str] at HST
      go_wp2_with (go_at_call 29; (with_reducible refine HST.out.mono ?_); rintro e w5 ⟨rfl, hb5⟩)
      go_ret
      exact ⟨rfl, Lib.hid (HW.out.trans hb5)⟩
end Go.Proofs.Ytplgnbedcjanhaa
