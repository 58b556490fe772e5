/- The walk of the law WordsBack. -/
import Derived.Test.YtplgnbedcjanhaaBs
set_option maxRecDepth 100000
namespace Go.Proofs.Ytplgnbedcjanhaa
open Go.RowKit

theorem Goes.more {P : Program} {md : Region.Mode} {ops : Array Oper} {Q : Exit → Act → World → Prop} {S S2 : World → Prop} {z : Nat} (h : ∀ w, S2 w → S w) : ∀ {n : Nat} {l : Array Bool} {a : Act} {w : World}, Goes P md ops Q S2 z n l a w → Goes P md ops Q S z n l a w
  | 0, _, _, _, g => g
  | _ + 1, _, _, _, g => ⟨g.1, fun j hj => wpOp_mono (fun _ _ k => ⟨fun hn => h _ (k.1 hn), Goes.more h k.2⟩) (g.2 j hj)⟩
theorem name_str {x : Wd} (hb : ∀ b ∈ x.txt, b < 256) (hl : x.txt.length < 1000000) (hn : isNameW x.txt = true) (w : World) :
    Calls Try.prog 14 #[.string (strOf x.txt)] w fun e w' => e = .returned (.bool true) ∧ Hid (Below w.heap.size w w') := by
  have h := isName_any (strOf x.txt) x.txt (strOf_bytes hb) (by rw [strOf_size]; exact hl) w
  rw [hn] at h
  exact h
theorem txt_out {x : Wd} (hg : Good x) (hk : x.kind = 0) : x.txt = outW x := by
  obtain ⟨kx, hkx, _, h2⟩ := hg.sort
  obtain rfl : kx = 0 := by omega
  rw [insT, if_neg (by decide)] at h2
  exact h2.symm
theorem joinL_each {ws : List Wd} : ∀ x ∈ ws, (outW x).length ≤ (joinL ws).length := by
  induction ws with
  | nil => intro x h; cases h
  | cons y ws ih =>
    intro x hx
    cases ws with
    | nil =>
      rw [List.mem_singleton] at hx
      subst hx; exact Nat.le_refl _
    | cons z ws =>
      rw [joinL_cons, List.length_append, List.length_cons]
      rcases List.mem_cons.1 hx with rfl | hx
      · omega
      · have := ih x hx; omega
set_option linter.unusedSimpArgs false in
set_option maxHeartbeats 8000000 in
theorem back_law (s : ByteArray) (w : World) : Calls Try.prog 5 #[.string s] w fun e w' => e = .returned (.bool true) ∧ Below w.heap.size w w' := by
  have mixed := mixed12
  have HA := Lib.hid (awake_any w)
  by_cases hsz : s.size ≤ 500
  · have hd : decide ((s.size : Int) > 500) = false := decide_eq_false (by omega)
    have hd2 : decide ((500 : Int) < s.size) = false := decide_eq_false (by omega)
    obtain ⟨ws, hws⟩ : ∃ ws, (allW (bytesOf s)).1 = ws := ⟨_, rfl⟩
    cases he : (allW (bytesOf s)).2 with
    | some p =>
      have hp := (wds_some (l := bytesOf s) (n := (bytesOf s).length - skN false (bytesOf s)) (p := skN false (bytesOf s)) (Nat.le_refl _) he).1
      rw [bytesOf_len] at hp
      have HP := Lib.hid (fun W => all_no (s := s) (l := bytesOf s) (ws := ws) (p := p) rfl (by omega) (by rw [← hws, ← he]) W)
      have e1 : decide ((p : Int) ≥ 0) = true := decide_eq_true (by omega)
      have e2 : decide ((0 : Int) ≤ p) = true := decide_eq_true (by omega)
      have e3 : decide ((p : Int) < s.size) = true := decide_eq_true (by omega)
      clear hws he
      go_enter Try.func5, Try.ntmps5
      go_wp2_with (first
        | (go_at_call 7; (with_reducible refine HA.out.mono ?_); rintro e w1 ⟨rfl, hb1⟩)
        | (go_at_call 8; (with_reducible refine (HP.out _).mono ?_); rintro e w2 ⟨rfl, hb2⟩))
      go_ret
      exact ⟨rfl, hb1.out.trans (hb2.out.mono hb1.out.size)⟩
    | none =>
      have hall : allW (bytesOf s) = (ws, none) := by rw [← hws, ← he]
      have HP := Lib.hid (fun W => all_yes (s := s) (l := bytesOf s) rfl (by omega) hall W)
      have hgood := wds_good (l := bytesOf s) (n := (bytesOf s).length - skN false (bytesOf s)) (p := skN false (bytesOf s)) (Nat.le_refl _)
      have hshort := joinL_short (l := bytesOf s) (n := (bytesOf s).length - skN false (bytesOf s)) (p := skN false (bytesOf s)) (Nat.le_refl _)
      have hbyte := wds_bytes (bytesOf_lt s) (n := (bytesOf s).length - skN false (bytesOf s)) (p := skN false (bytesOf s)) (Nat.le_refl _)
      have hlen := wds_len (l := bytesOf s) (n := (bytesOf s).length - skN false (bytesOf s)) (p := skN false (bytesOf s)) (Nat.le_refl _)
      have hback := back_words (bytesOf s)
      have hw : (wds (bytesOf s) (skN false (bytesOf s))).1 = ws := hws
      rw [hw] at hgood hshort hbyte hlen
      rw [hws] at hback
      rw [bytesOf_len] at hshort hlen
      have hjs : (joinL ws).length ≤ 1000 := by omega
      have hls : ws.length ≤ 500 := by omega
      have hjb := joinL_bytes hbyte
      have HG := Lib.hid hgood
      have HBY := Lib.hid hbyte
      have HLS := Lib.hid hls
      have HJS := Lib.hid hjs
      have HJN : Hid (∀ v W, WsAt W v ws → Calls Try.prog 16 #[v] W fun e w' => e = .returned (.string (strOf (joinL ws))) ∧ Hid (Below W.heap.size W w')) := Lib.hid (fun v W h => join_any v ws W h (by omega) (by omega))
      have HP2 : Hid (∀ W, Calls Try.prog 8 #[.string (strOf (joinL ws))] W fun e w' => ∃ a c, e = .returned (.tuple #[.slice a (reP ws 0).length c, .int .i64 0, .int .i64 0]) ∧ Hid (WsAt w' (.slice a (reP ws 0).length c) (reP ws 0)) ∧ Hid (Below W.heap.size W w')) := Lib.hid (fun W => all_yes (s := strOf (joinL ws)) (l := joinL ws) (strOf_bytes hjb) (by rw [strOf_size]; omega) hback W)
      have HSM : Hid (SameW false ws (reP ws 0)) := Lib.hid ⟨(reP_len ws 0).symm, fun i h h' => ⟨(reP_at ws 0 i h h').1, (reP_at ws 0 i h h').2, fun e => by cases e⟩⟩
      have HLR := Lib.hid (reP_len ws 0)
      generalize reP ws 0 = vs at *
      clear hws he hall hgood hshort hbyte hlen hback hw hjs hjb hls
      go_enter Try.func5, Try.ntmps5
      go_upto_region 6 with (go_at_call 7; (with_reducible refine HA.out.mono ?_); rintro e w1 ⟨rfl, hb1⟩)
      go_upto_region 7 with (go_at_call 8; (with_reducible refine (HP.out _).mono ?_); rintro e w2 ⟨a2, c2, rfl, hw2, hb2⟩)
      go_upto_region 10 with (first
        | (go_at_call 16; (with_reducible refine (HJN.out _ _ hw2.out).mono ?_); rintro e w3 ⟨rfl, hb3⟩)
        | (go_at_call 8; (with_reducible refine (HP2.out _).mono ?_); rintro e w4 ⟨a4, c4, rfl, hw4, hb4⟩))
      have HB4 : Hid (Below w.heap.size w w4) := Lib.hid (((hb1.out.trans (hb2.out.mono hb1.out.size)).trans (hb3.out.mono (Nat.le_trans hb1.out.size hb2.out.size))).trans (hb4.out.mono (Nat.le_trans (Nat.le_trans hb1.out.size hb2.out.size) hb3.out.size)))
      have HW2 := Lib.hid (hw2.out.below (hb3.out.trans (hb4.out.mono hb3.out.size)))
      have HW4 := hw4
      clear hw2 hw4 hb1 hb2 hb3 hb4 HP HP2 HJN HA
      go_wp2_with fail
      go_loopw [10] (fun z wr => ∃ k : Nat, z = .int .i64 k ∧ k ≤ ws.length ∧ Hid (Below w4.heap.size w4 wr)) (fun z _ => ws.length - (intOf z).toNat)
      case atStart => exact ⟨0, rfl, Nat.zero_le _, Lib.hid (Below.refl _ _)⟩
      case round =>
        obtain ⟨k, rfl, hk, HBR⟩ := hrel
        by_cases hlt : k < ws.length
        · have hd3 : decide ((k : Int) < ws.length) = true := decide_eq_true (by omega)
          have hki : (k : Int) < ws.length := by omega
          have HWR := Lib.hid (HW2.out.below HBR.out)
          obtain ⟨b, o, rfl, x0, x1, x2⟩ := HWR.out.at hlt
          have hg := (HG.out.1 _ (List.getElem_mem hlt)).1
          have hby := HBY.out _ (List.getElem_mem hlt)
          have hel := joinL_each (ws := ws) _ (List.getElem_mem hlt)
          by_cases hk0 : k = 0
          · have d1 : decide ((k : Int) > 0) = false := decide_eq_false (by omega)
            have d2 : decide ((0 : Int) < k) = false := decide_eq_false (by omega)
            by_cases hkd : ws[k].kind = 0
            · have e0 : (ws[k].kind == 0) = true := i_yes hkd
              have hto := txt_out hg hkd
              have HNM := Lib.hid (fun W => name_str (x := ws[k]) (by rw [hto]; exact hby) (by rw [hto]; have := HJS.out; omega) (good_name hg hkd) W)
              subst hk0
              simp only [Nat.zero_mul, Nat.add_zero] at x0 x1 x2
              have HX0 := Lib.hid x0
              clear hg hby hel hto hkd
              go_upto_region 13 with fail
              refine region_goes 33 33 rfl (fun W => Below wr.heap.size wr W) mixed (Below.refl _ _).drew (fun hHeld => ?_)
              refine goes_take0 (i := 0) (v := ?gwa1) rfl (by kernel_rfl) (by kernel_rfl) (by kernel_rfl) rfl (fun _ _ _ h => h) (Or.inl ⟨by rfl, ?gxa1⟩) (by assumption) ?gqa1
              case gxa1 => (intro W9 _; first | (go_simp; done) | (go_simp; with_reducible rfl))
              simp only [Act.put, List.getElem_toArray, List.getElem_cons_succ, List.getElem_cons_zero, List.setIfInBounds_toArray, List.set_cons_zero, List.set_cons_succ]
              refine goes_take0 (i := 1) (v := ?gwa2) rfl (by kernel_rfl) (by kernel_rfl) (by kernel_rfl) rfl (fun _ _ _ h => h) (Or.inl ⟨by rfl, ?gxa2⟩) (by assumption) ?gqa2
              case gxa2 => (intro W9 _; first | (go_simp; done) | (go_simp; with_reducible rfl))
              simp only [Act.put, List.getElem_toArray, List.getElem_cons_succ, List.getElem_cons_zero, List.setIfInBounds_toArray, List.set_cons_zero, List.set_cons_succ]
              refine goes_take0 (i := 2) (v := ?gwa3) rfl (by kernel_rfl) (by kernel_rfl) (by kernel_rfl) rfl (fun _ _ _ h => h) (Or.inl ⟨by rfl, ?gxa3⟩) (by assumption) ?gqa3
              case gxa3 => (intro W9 _; first | (go_simp; done) | (go_simp; with_reducible rfl))
              simp only [Act.put, List.getElem_toArray, List.getElem_cons_succ, List.getElem_cons_zero, List.setIfInBounds_toArray, List.set_cons_zero, List.set_cons_succ]
              refine goes_take0 (i := 3) (v := ?gwa4) rfl (by kernel_rfl) (by kernel_rfl) (by kernel_rfl) rfl (fun _ _ _ h => h) (Or.inl ⟨by rfl, ?gxa4⟩) (by assumption) ?gqa4
              case gxa4 => (intro W9 _; first | (go_simp; done) | (go_simp; with_reducible rfl))
              simp only [Act.put, List.getElem_toArray, List.getElem_cons_succ, List.getElem_cons_zero, List.setIfInBounds_toArray, List.set_cons_zero, List.set_cons_succ]
              refine goes_take0 (i := 4) (v := ?gwa5) rfl (by kernel_rfl) (by kernel_rfl) (by kernel_rfl) rfl (fun _ _ _ h => h) (Or.inl ⟨by rfl, ?gxa5⟩) (by assumption) ?gqa5
              case gxa5 => (intro W9 hW9; have hc9 := cell_below hW9 x0; first | (go_simp; done) | (go_simp; with_reducible rfl))
              simp only [Act.put, List.getElem_toArray, List.getElem_cons_succ, List.getElem_cons_zero, List.setIfInBounds_toArray, List.set_cons_zero, List.set_cons_succ]
              refine goes_take0 (i := 5) (v := ?gwa6) rfl (by kernel_rfl) (by kernel_rfl) (by kernel_rfl) rfl (fun _ _ _ h => h) (Or.inl ⟨by rfl, ?gxa6⟩) (by assumption) ?gqa6
              case gxa6 => (intro W9 _; first | (go_simp; done) | (go_simp; with_reducible rfl))
              simp only [Act.put, List.getElem_toArray, List.getElem_cons_succ, List.getElem_cons_zero, List.setIfInBounds_toArray, List.set_cons_zero, List.set_cons_succ]
              refine goes_take0 (i := 6) (v := ?gwa7) rfl (by kernel_rfl) (by kernel_rfl) (by kernel_rfl) rfl (fun _ _ _ h => h) (Or.inl ⟨by rfl, ?gxa7⟩) (by assumption) ?gqa7
              case gxa7 => (intro W9 _; first | (go_simp; done) | (go_simp; with_reducible rfl))
              simp only [Act.put, List.getElem_toArray, List.getElem_cons_succ, List.getElem_cons_zero, List.setIfInBounds_toArray, List.set_cons_zero, List.set_cons_succ]
              refine goes_take0 (i := 7) (v := ?gwa8) rfl (by kernel_rfl) (by kernel_rfl) (by kernel_rfl) rfl (fun _ _ _ h => h) (Or.inl ⟨by rfl, ?gxa8⟩) (by assumption) ?gqa8
              case gxa8 => (intro W9 _; first | (go_simp; done) | (go_simp; with_reducible rfl))
              simp only [Act.put, List.getElem_toArray, List.getElem_cons_succ, List.getElem_cons_zero, List.setIfInBounds_toArray, List.set_cons_zero, List.set_cons_succ]
              refine goes_take0 (i := 8) (v := ?gwa9) rfl (by kernel_rfl) (by kernel_rfl) (by kernel_rfl) rfl (fun _ _ _ h => h) (Or.inl ⟨by rfl, ?gxa9⟩) (by assumption) ?gqa9
              case gxa9 => (intro W9 _; first | (go_simp; done) | (go_simp; with_reducible rfl))
              simp only [Act.put, List.getElem_toArray, List.getElem_cons_succ, List.getElem_cons_zero, List.setIfInBounds_toArray, List.set_cons_zero, List.set_cons_succ]
              refine goes_take0 (i := 9) (v := ?gwa10) rfl (by kernel_rfl) (by kernel_rfl) (by kernel_rfl) rfl (fun _ _ _ h => h) (Or.inl ⟨by rfl, ?gxa10⟩) (by assumption) ?gqa10
              case gxa10 => (intro W9 _; first | (go_simp; done) | (go_simp; with_reducible rfl))
              simp only [Act.put, List.getElem_toArray, List.getElem_cons_succ, List.getElem_cons_zero, List.setIfInBounds_toArray, List.set_cons_zero, List.set_cons_succ]
              refine goes_take0 (i := 10) (v := ?gwa11) rfl (by kernel_rfl) (by kernel_rfl) (by kernel_rfl) rfl (fun _ _ _ h => h) (Or.inl ⟨by rfl, ?gxa11⟩) (by assumption) ?gqa11
              case gxa11 => (intro W9 _; first | (go_simp; done) | (go_simp; with_reducible rfl))
              simp only [Act.put, List.getElem_toArray, List.getElem_cons_succ, List.getElem_cons_zero, List.setIfInBounds_toArray, List.set_cons_zero, List.set_cons_succ]
              refine goes_take0 (i := 11) (v := ?gwa12) rfl (by kernel_rfl) (by kernel_rfl) (by kernel_rfl) rfl (fun _ _ _ h => h) (Or.inl ⟨by rfl, ?gxa12⟩) (by assumption) ?gqa12
              case gxa12 => (intro W9 hW9; have hc9 := cell_below hW9 x1; first | (go_simp; done) | (go_simp; with_reducible rfl))
              simp only [Act.put, List.getElem_toArray, List.getElem_cons_succ, List.getElem_cons_zero, List.setIfInBounds_toArray, List.set_cons_zero, List.set_cons_succ]
              refine goes_one (i := 12) (by kernel_rfl) rfl (fun K9 hK9 => ?_)
              go_simp
              with_reducible refine (HNM.out _).mono ?_
              rintro e w5 ⟨rfl, hb5⟩
              have hAnw5 := hHeld.trans ((hb5.out).mono hHeld.size)
              refine hK9.out _ _ (fun _ => hAnw5) (fun _ => ?_)
              clear hK9 K9 hHeld
              refine Goes.more (S2 := fun W => Below w5.heap.size w5 W) (fun W h => hAnw5.trans (h.mono hAnw5.size)) ?_
              have hHeld := Below.refl w5.heap.size w5
              have y2 := cell_below hAnw5 x2
              have HB5 := Lib.hid (HBR.out.trans (hAnw5.mono HBR.out.size))
              refine goes_take0 (i := 13) (v := ?gwa13) rfl (by kernel_rfl) (by kernel_rfl) (by kernel_rfl) rfl (fun _ _ _ h => h) (Or.inl ⟨by rfl, ?gxa13⟩) (by assumption) ?gqa13
              case gxa13 => (intro W9 _; first | (go_simp; done) | (go_simp; with_reducible rfl))
              simp only [Act.put, List.getElem_toArray, List.getElem_cons_succ, List.getElem_cons_zero, List.setIfInBounds_toArray, List.set_cons_zero, List.set_cons_succ]
              refine goes_take0 (i := 14) (v := ?gwa14) rfl (by kernel_rfl) (by kernel_rfl) (by kernel_rfl) rfl (fun _ _ _ h => h) (Or.inl ⟨by rfl, ?gxa14⟩) (by assumption) ?gqa14
              case gxa14 => (intro W9 _; first | (go_simp; done) | (go_simp; with_reducible rfl))
              simp only [Act.put, List.getElem_toArray, List.getElem_cons_succ, List.getElem_cons_zero, List.setIfInBounds_toArray, List.set_cons_zero, List.set_cons_succ]
              refine goes_take0 (i := 15) (v := ?gwa15) rfl (by kernel_rfl) (by kernel_rfl) (by kernel_rfl) rfl (fun _ _ _ h => h) (Or.inl ⟨by rfl, ?gxa15⟩) (by assumption) ?gqa15
              case gxa15 => (intro W9 _; first | (go_simp; done) | (go_simp; with_reducible rfl))
              simp only [Act.put, List.getElem_toArray, List.getElem_cons_succ, List.getElem_cons_zero, List.setIfInBounds_toArray, List.set_cons_zero, List.set_cons_succ]
              refine goes_take0 (i := 16) (v := ?gwa16) rfl (by kernel_rfl) (by kernel_rfl) (by kernel_rfl) rfl (fun _ _ _ h => h) (Or.inl ⟨by rfl, ?gxa16⟩) (by assumption) ?gqa16
              case gxa16 => (intro W9 _; first | (go_simp; done) | (go_simp; with_reducible rfl))
              simp only [Act.put, List.getElem_toArray, List.getElem_cons_succ, List.getElem_cons_zero, List.setIfInBounds_toArray, List.set_cons_zero, List.set_cons_succ]
              refine goes_take0 (i := 17) (v := ?gwa17) rfl (by kernel_rfl) (by kernel_rfl) (by kernel_rfl) rfl (fun _ _ _ h => h) (Or.inl ⟨by rfl, ?gxa17⟩) (by assumption) ?gqa17
              case gxa17 => (intro W9 _; first | (go_simp; done) | (go_simp; with_reducible rfl))
              simp only [Act.put, List.getElem_toArray, List.getElem_cons_succ, List.getElem_cons_zero, List.setIfInBounds_toArray, List.set_cons_zero, List.set_cons_succ]
              refine goes_take0 (i := 18) (v := ?gwa18) rfl (by kernel_rfl) (by kernel_rfl) (by kernel_rfl) rfl (fun _ _ _ h => h) (Or.inl ⟨by rfl, ?gxa18⟩) (by assumption) ?gqa18
              case gxa18 => (intro W9 _; first | (go_simp; done) | (go_simp; with_reducible rfl))
              simp only [Act.put, List.getElem_toArray, List.getElem_cons_succ, List.getElem_cons_zero, List.setIfInBounds_toArray, List.set_cons_zero, List.set_cons_succ]
              refine goes_take0 (i := 19) (v := undef) rfl (by kernel_rfl) (by kernel_rfl) (by kernel_rfl) rfl (fun _ _ _ h => h) (Or.inr ⟨by rfl, rfl⟩) (by assumption) ?_
              simp only [Act.put, List.getElem_toArray, List.getElem_cons_succ, List.getElem_cons_zero, List.setIfInBounds_toArray, List.set_cons_zero, List.set_cons_succ]
              refine goes_take0 (i := 20) (v := undef) rfl (by kernel_rfl) (by kernel_rfl) (by kernel_rfl) rfl (fun _ _ _ h => h) (Or.inr ⟨by rfl, rfl⟩) (by assumption) ?_
              simp only [Act.put, List.getElem_toArray, List.getElem_cons_succ, List.getElem_cons_zero, List.setIfInBounds_toArray, List.set_cons_zero, List.set_cons_succ]
              refine goes_take0 (i := 21) (v := undef) rfl (by kernel_rfl) (by kernel_rfl) (by kernel_rfl) rfl (fun _ _ _ h => h) (Or.inr ⟨by rfl, rfl⟩) (by assumption) ?_
              simp only [Act.put, List.getElem_toArray, List.getElem_cons_succ, List.getElem_cons_zero, List.setIfInBounds_toArray, List.set_cons_zero, List.set_cons_succ]
              refine goes_take0 (i := 22) (v := undef) rfl (by kernel_rfl) (by kernel_rfl) (by kernel_rfl) rfl (fun _ _ _ h => h) (Or.inr ⟨by rfl, rfl⟩) (by assumption) ?_
              simp only [Act.put, List.getElem_toArray, List.getElem_cons_succ, List.getElem_cons_zero, List.setIfInBounds_toArray, List.set_cons_zero, List.set_cons_succ]
              refine goes_take0 (i := 23) (v := undef) rfl (by kernel_rfl) (by kernel_rfl) (by kernel_rfl) rfl (fun _ _ _ h => h) (Or.inr ⟨by rfl, rfl⟩) (by assumption) ?_
              simp only [Act.put, List.getElem_toArray, List.getElem_cons_succ, List.getElem_cons_zero, List.setIfInBounds_toArray, List.set_cons_zero, List.set_cons_succ]
              refine goes_take0 (i := 24) (v := undef) rfl (by kernel_rfl) (by kernel_rfl) (by kernel_rfl) rfl (fun _ _ _ h => h) (Or.inr ⟨by rfl, rfl⟩) (by assumption) ?_
              simp only [Act.put, List.getElem_toArray, List.getElem_cons_succ, List.getElem_cons_zero, List.setIfInBounds_toArray, List.set_cons_zero, List.set_cons_succ]
              refine goes_take0 (i := 25) (v := undef) rfl (by kernel_rfl) (by kernel_rfl) (by kernel_rfl) rfl (fun _ _ _ h => h) (Or.inr ⟨by rfl, rfl⟩) (by assumption) ?_
              simp only [Act.put, List.getElem_toArray, List.getElem_cons_succ, List.getElem_cons_zero, List.setIfInBounds_toArray, List.set_cons_zero, List.set_cons_succ]
              refine goes_take0 (i := 26) (v := undef) rfl (by kernel_rfl) (by kernel_rfl) (by kernel_rfl) rfl (fun _ _ _ h => h) (Or.inr ⟨by rfl, rfl⟩) (by assumption) ?_
              simp only [Act.put, List.getElem_toArray, List.getElem_cons_succ, List.getElem_cons_zero, List.setIfInBounds_toArray, List.set_cons_zero, List.set_cons_succ]
              refine goes_take0 (i := 27) (v := undef) rfl (by kernel_rfl) (by kernel_rfl) (by kernel_rfl) rfl (fun _ _ _ h => h) (Or.inr ⟨by rfl, rfl⟩) (by assumption) ?_
              simp only [Act.put, List.getElem_toArray, List.getElem_cons_succ, List.getElem_cons_zero, List.setIfInBounds_toArray, List.set_cons_zero, List.set_cons_succ]
              refine goes_take0 (i := 28) (v := undef) rfl (by kernel_rfl) (by kernel_rfl) (by kernel_rfl) rfl (fun _ _ _ h => h) (Or.inr ⟨by rfl, rfl⟩) (by assumption) ?_
              simp only [Act.put, List.getElem_toArray, List.getElem_cons_succ, List.getElem_cons_zero, List.setIfInBounds_toArray, List.set_cons_zero, List.set_cons_succ]
              refine goes_take0 (i := 29) (v := undef) rfl (by kernel_rfl) (by kernel_rfl) (by kernel_rfl) rfl (fun _ _ _ h => h) (Or.inr ⟨by rfl, rfl⟩) (by assumption) ?_
              simp only [Act.put, List.getElem_toArray, List.getElem_cons_succ, List.getElem_cons_zero, List.setIfInBounds_toArray, List.set_cons_zero, List.set_cons_succ]
              refine goes_take0 (i := 30) (v := undef) rfl (by kernel_rfl) (by kernel_rfl) (by kernel_rfl) rfl (fun _ _ _ h => h) (Or.inr ⟨by rfl, rfl⟩) (by assumption) ?_
              simp only [Act.put, List.getElem_toArray, List.getElem_cons_succ, List.getElem_cons_zero, List.setIfInBounds_toArray, List.set_cons_zero, List.set_cons_succ]
              refine goes_take0 (i := 31) (v := ?gwa19) rfl (by kernel_rfl) (by kernel_rfl) (by kernel_rfl) rfl (fun _ _ _ h => h) (Or.inl ⟨by rfl, ?gxa19⟩) (by assumption) ?gqa19
              case gxa19 => (intro W9 _; first | (go_simp; done) | (go_simp; with_reducible rfl))
              simp only [Act.put, List.getElem_toArray, List.getElem_cons_succ, List.getElem_cons_zero, List.setIfInBounds_toArray, List.set_cons_zero, List.set_cons_succ]
              refine goes_take0 (i := 32) (v := ?gwa20) rfl (by kernel_rfl) (by kernel_rfl) (by kernel_rfl) rfl (fun _ _ _ h => h) (Or.inl ⟨by rfl, ?gxa20⟩) (by assumption) ?gqa20
              case gxa20 => (intro W9 _; first | (go_simp; done) | (go_simp; with_reducible rfl))
              simp only [Act.put, List.getElem_toArray, List.getElem_cons_succ, List.getElem_cons_zero, List.setIfInBounds_toArray, List.set_cons_zero, List.set_cons_succ]
              refine goes_done (by kernel_rfl) ?_ _
              go_wp2
              go_roundw
              case rel => exact ⟨1, rfl, hlt, HB5⟩
              case measure => simp only [intOf]; omega
            · have e0 : (ws[k].kind == 0) = false := i_no hkd
              subst hk0
              simp only [Nat.zero_mul, Nat.add_zero] at x0 x1 x2
              clear hg hby hel hkd
              go_upto_region 13 with fail
              go_quiet (fail)
              go_wp2
              go_roundw
              case rel => exact ⟨1, rfl, hlt, Lib.hid (below_drewN HBR.out _)⟩
              case measure => simp only [intOf]; omega
          · have d1 : decide ((k : Int) > 0) = true := decide_eq_true (by omega)
            have d2 : decide ((0 : Int) < k) = true := decide_eq_true (by omega)
            have d3 : 0 < k := by omega
            have HLK := Lib.hid (show k ≤ 500 by have := HLS.out; omega)
            obtain ⟨m, hm⟩ : ∃ m, k = m + 1 := ⟨k - 1, by omega⟩
            have hkm : m < ws.length := by omega
            obtain ⟨_, _, e9, _, _, z2⟩ := HWR.out.at hkm
            cases e9
            have hpos : ws[m].pos < ws[k].pos := (List.pairwise_iff_getElem.1 HG.out.2) m k hkm hlt (by omega)
            have d4 : decide ((ws[k].pos : Int) ≤ (ws[m].pos : Int)) = false := decide_eq_false (by omega)
            have d5 : decide (ws[k].pos ≤ ws[m].pos) = false := decide_eq_false (by omega)
            have hsub2 : (k : Int) - 1 = (m : Int) := by omega
            have hsub3 : IntKind.i64.wrap (m : Int) = (m : Int) := by rw [IntKind.wrap_i64]; have := HLK.out; omega
            have hkm2 : (m : Int) < ws.length := by omega
            clear hm
            by_cases hkd : ws[k].kind = 0
            · have e0 : (ws[k].kind == 0) = true := i_yes hkd
              have hto := txt_out hg hkd
              have HNM := Lib.hid (fun W => name_str (x := ws[k]) (by rw [hto]; exact hby) (by rw [hto]; have := HJS.out; omega) (good_name hg hkd) W)
              clear hg hby hel hto hkd hpos
              go_upto_region 13 with fail
              refine region_goes 33 33 rfl (fun W => Below wr.heap.size wr W) mixed (Below.refl _ _).drew (fun hHeld => ?_)
              refine goes_take0 (i := 0) (v := ?gwb1) rfl (by kernel_rfl) (by kernel_rfl) (by kernel_rfl) rfl (fun _ _ _ h => h) (Or.inl ⟨by rfl, ?gxb1⟩) (by assumption) ?gqb1
              case gxb1 => (intro W9 _; first | (go_simp; done) | (go_simp; with_reducible rfl))
              simp only [Act.put, List.getElem_toArray, List.getElem_cons_succ, List.getElem_cons_zero, List.setIfInBounds_toArray, List.set_cons_zero, List.set_cons_succ]
              refine goes_take0 (i := 1) (v := ?gwb2) rfl (by kernel_rfl) (by kernel_rfl) (by kernel_rfl) rfl (fun _ _ _ h => h) (Or.inl ⟨by rfl, ?gxb2⟩) (by assumption) ?gqb2
              case gxb2 => (intro W9 _; first | (go_simp; done) | (go_simp; with_reducible rfl))
              simp only [Act.put, List.getElem_toArray, List.getElem_cons_succ, List.getElem_cons_zero, List.setIfInBounds_toArray, List.set_cons_zero, List.set_cons_succ]
              refine goes_take0 (i := 2) (v := ?gwb3) rfl (by kernel_rfl) (by kernel_rfl) (by kernel_rfl) rfl (fun _ _ _ h => h) (Or.inl ⟨by rfl, ?gxb3⟩) (by assumption) ?gqb3
              case gxb3 => (intro W9 _; first | (go_simp; done) | (go_simp; with_reducible rfl))
              simp only [Act.put, List.getElem_toArray, List.getElem_cons_succ, List.getElem_cons_zero, List.setIfInBounds_toArray, List.set_cons_zero, List.set_cons_succ]
              refine goes_take0 (i := 3) (v := ?gwb4) rfl (by kernel_rfl) (by kernel_rfl) (by kernel_rfl) rfl (fun _ _ _ h => h) (Or.inl ⟨by rfl, ?gxb4⟩) (by assumption) ?gqb4
              case gxb4 => (intro W9 _; first | (go_simp; done) | (go_simp; with_reducible rfl))
              simp only [Act.put, List.getElem_toArray, List.getElem_cons_succ, List.getElem_cons_zero, List.setIfInBounds_toArray, List.set_cons_zero, List.set_cons_succ]
              refine goes_take0 (i := 4) (v := ?gwb5) rfl (by kernel_rfl) (by kernel_rfl) (by kernel_rfl) rfl (fun _ _ _ h => h) (Or.inl ⟨by rfl, ?gxb5⟩) (by assumption) ?gqb5
              case gxb5 => (intro W9 hW9; have hc9 := cell_below hW9 x0; first | (go_simp; done) | (go_simp; with_reducible rfl))
              simp only [Act.put, List.getElem_toArray, List.getElem_cons_succ, List.getElem_cons_zero, List.setIfInBounds_toArray, List.set_cons_zero, List.set_cons_succ]
              refine goes_take0 (i := 5) (v := ?gwb6) rfl (by kernel_rfl) (by kernel_rfl) (by kernel_rfl) rfl (fun _ _ _ h => h) (Or.inl ⟨by rfl, ?gxb6⟩) (by assumption) ?gqb6
              case gxb6 => (intro W9 _; first | (go_simp; done) | (go_simp; with_reducible rfl))
              simp only [Act.put, List.getElem_toArray, List.getElem_cons_succ, List.getElem_cons_zero, List.setIfInBounds_toArray, List.set_cons_zero, List.set_cons_succ]
              refine goes_take0 (i := 6) (v := ?gwb7) rfl (by kernel_rfl) (by kernel_rfl) (by kernel_rfl) rfl (fun _ _ _ h => h) (Or.inl ⟨by rfl, ?gxb7⟩) (by assumption) ?gqb7
              case gxb7 => (intro W9 _; first | (go_simp; done) | (go_simp; with_reducible rfl))
              simp only [Act.put, List.getElem_toArray, List.getElem_cons_succ, List.getElem_cons_zero, List.setIfInBounds_toArray, List.set_cons_zero, List.set_cons_succ]
              refine goes_take0 (i := 7) (v := ?gwb8) rfl (by kernel_rfl) (by kernel_rfl) (by kernel_rfl) rfl (fun _ _ _ h => h) (Or.inl ⟨by rfl, ?gxb8⟩) (by assumption) ?gqb8
              case gxb8 => (intro W9 _; first | (go_simp; done) | (go_simp; with_reducible rfl))
              simp only [Act.put, List.getElem_toArray, List.getElem_cons_succ, List.getElem_cons_zero, List.setIfInBounds_toArray, List.set_cons_zero, List.set_cons_succ]
              refine goes_take0 (i := 8) (v := ?gwb9) rfl (by kernel_rfl) (by kernel_rfl) (by kernel_rfl) rfl (fun _ _ _ h => h) (Or.inl ⟨by rfl, ?gxb9⟩) (by assumption) ?gqb9
              case gxb9 => (intro W9 _; first | (go_simp; done) | (go_simp; with_reducible rfl))
              simp only [Act.put, List.getElem_toArray, List.getElem_cons_succ, List.getElem_cons_zero, List.setIfInBounds_toArray, List.set_cons_zero, List.set_cons_succ]
              refine goes_take0 (i := 9) (v := ?gwb10) rfl (by kernel_rfl) (by kernel_rfl) (by kernel_rfl) rfl (fun _ _ _ h => h) (Or.inl ⟨by rfl, ?gxb10⟩) (by assumption) ?gqb10
              case gxb10 => (intro W9 _; first | (go_simp; done) | (go_simp; with_reducible rfl))
              simp only [Act.put, List.getElem_toArray, List.getElem_cons_succ, List.getElem_cons_zero, List.setIfInBounds_toArray, List.set_cons_zero, List.set_cons_succ]
              refine goes_take0 (i := 10) (v := ?gwb11) rfl (by kernel_rfl) (by kernel_rfl) (by kernel_rfl) rfl (fun _ _ _ h => h) (Or.inl ⟨by rfl, ?gxb11⟩) (by assumption) ?gqb11
              case gxb11 => (intro W9 _; first | (go_simp; done) | (go_simp; with_reducible rfl))
              simp only [Act.put, List.getElem_toArray, List.getElem_cons_succ, List.getElem_cons_zero, List.setIfInBounds_toArray, List.set_cons_zero, List.set_cons_succ]
              refine goes_take0 (i := 11) (v := ?gwb12) rfl (by kernel_rfl) (by kernel_rfl) (by kernel_rfl) rfl (fun _ _ _ h => h) (Or.inl ⟨by rfl, ?gxb12⟩) (by assumption) ?gqb12
              case gxb12 => (intro W9 hW9; have hc9 := cell_below hW9 x1; first | (go_simp; done) | (go_simp; with_reducible rfl))
              simp only [Act.put, List.getElem_toArray, List.getElem_cons_succ, List.getElem_cons_zero, List.setIfInBounds_toArray, List.set_cons_zero, List.set_cons_succ]
              refine goes_one (i := 12) (by kernel_rfl) rfl (fun K9 hK9 => ?_)
              go_simp
              with_reducible refine (HNM.out _).mono ?_
              rintro e w5 ⟨rfl, hb5⟩
              have hAnw5 := hHeld.trans ((hb5.out).mono hHeld.size)
              refine hK9.out _ _ (fun _ => hAnw5) (fun _ => ?_)
              clear hK9 K9 hHeld
              refine Goes.more (S2 := fun W => Below w5.heap.size w5 W) (fun W h => hAnw5.trans (h.mono hAnw5.size)) ?_
              have hHeld := Below.refl w5.heap.size w5
              have y2 := cell_below hAnw5 x2
              have HB5 := Lib.hid (HBR.out.trans (hAnw5.mono HBR.out.size))
              have yz := cell_below hAnw5 z2
              refine goes_take0 (i := 13) (v := ?gwb13) rfl (by kernel_rfl) (by kernel_rfl) (by kernel_rfl) rfl (fun _ _ _ h => h) (Or.inl ⟨by rfl, ?gxb13⟩) (by assumption) ?gqb13
              case gxb13 => (intro W9 _; first | (go_simp; done) | (go_simp; with_reducible rfl))
              simp only [Act.put, List.getElem_toArray, List.getElem_cons_succ, List.getElem_cons_zero, List.setIfInBounds_toArray, List.set_cons_zero, List.set_cons_succ]
              refine goes_take0 (i := 14) (v := ?gwb14) rfl (by kernel_rfl) (by kernel_rfl) (by kernel_rfl) rfl (fun _ _ _ h => h) (Or.inl ⟨by rfl, ?gxb14⟩) (by assumption) ?gqb14
              case gxb14 => (intro W9 _; first | (go_simp; done) | (go_simp; with_reducible rfl))
              simp only [Act.put, List.getElem_toArray, List.getElem_cons_succ, List.getElem_cons_zero, List.setIfInBounds_toArray, List.set_cons_zero, List.set_cons_succ]
              refine goes_take0 (i := 15) (v := ?gwb15) rfl (by kernel_rfl) (by kernel_rfl) (by kernel_rfl) rfl (fun _ _ _ h => h) (Or.inl ⟨by rfl, ?gxb15⟩) (by assumption) ?gqb15
              case gxb15 => (intro W9 _; first | (go_simp; done) | (go_simp; with_reducible rfl))
              simp only [Act.put, List.getElem_toArray, List.getElem_cons_succ, List.getElem_cons_zero, List.setIfInBounds_toArray, List.set_cons_zero, List.set_cons_succ]
              refine goes_take0 (i := 16) (v := ?gwb16) rfl (by kernel_rfl) (by kernel_rfl) (by kernel_rfl) rfl (fun _ _ _ h => h) (Or.inl ⟨by rfl, ?gxb16⟩) (by assumption) ?gqb16
              case gxb16 => (intro W9 _; first | (go_simp; done) | (go_simp; with_reducible rfl))
              simp only [Act.put, List.getElem_toArray, List.getElem_cons_succ, List.getElem_cons_zero, List.setIfInBounds_toArray, List.set_cons_zero, List.set_cons_succ]
              refine goes_take0 (i := 17) (v := ?gwb17) rfl (by kernel_rfl) (by kernel_rfl) (by kernel_rfl) rfl (fun _ _ _ h => h) (Or.inl ⟨by rfl, ?gxb17⟩) (by assumption) ?gqb17
              case gxb17 => (intro W9 _; first | (go_simp; done) | (go_simp; with_reducible rfl))
              simp only [Act.put, List.getElem_toArray, List.getElem_cons_succ, List.getElem_cons_zero, List.setIfInBounds_toArray, List.set_cons_zero, List.set_cons_succ]
              refine goes_take0 (i := 18) (v := ?gwb18) rfl (by kernel_rfl) (by kernel_rfl) (by kernel_rfl) rfl (fun _ _ _ h => h) (Or.inl ⟨by rfl, ?gxb18⟩) (by assumption) ?gqb18
              case gxb18 => (intro W9 _; first | (go_simp; done) | (go_simp; with_reducible rfl))
              simp only [Act.put, List.getElem_toArray, List.getElem_cons_succ, List.getElem_cons_zero, List.setIfInBounds_toArray, List.set_cons_zero, List.set_cons_succ]
              refine goes_take0 (i := 19) (v := ?gwb19) rfl (by kernel_rfl) (by kernel_rfl) (by kernel_rfl) rfl (fun _ _ _ h => h) (Or.inl ⟨by rfl, ?gxb19⟩) (by assumption) ?gqb19
              case gxb19 => (intro W9 _; first | (go_simp; done) | (go_simp; with_reducible rfl))
              simp only [Act.put, List.getElem_toArray, List.getElem_cons_succ, List.getElem_cons_zero, List.setIfInBounds_toArray, List.set_cons_zero, List.set_cons_succ]
              refine goes_take0 (i := 20) (v := ?gwb20) rfl (by kernel_rfl) (by kernel_rfl) (by kernel_rfl) rfl (fun _ _ _ h => h) (Or.inl ⟨by rfl, ?gxb20⟩) (by assumption) ?gqb20
              case gxb20 => (intro W9 _; first | (go_simp; done) | (go_simp; with_reducible rfl))
              simp only [Act.put, List.getElem_toArray, List.getElem_cons_succ, List.getElem_cons_zero, List.setIfInBounds_toArray, List.set_cons_zero, List.set_cons_succ]
              refine goes_take0 (i := 21) (v := ?gwb21) rfl (by kernel_rfl) (by kernel_rfl) (by kernel_rfl) rfl (fun _ _ _ h => h) (Or.inl ⟨by rfl, ?gxb21⟩) (by assumption) ?gqb21
              case gxb21 => (intro W9 _; first | (go_simp; done) | (go_simp; with_reducible rfl))
              simp only [Act.put, List.getElem_toArray, List.getElem_cons_succ, List.getElem_cons_zero, List.setIfInBounds_toArray, List.set_cons_zero, List.set_cons_succ]
              refine goes_take0 (i := 22) (v := ?gwb22) rfl (by kernel_rfl) (by kernel_rfl) (by kernel_rfl) rfl (fun _ _ _ h => h) (Or.inl ⟨by rfl, ?gxb22⟩) (by assumption) ?gqb22
              case gxb22 => (intro W9 _; first | (go_simp; done) | (go_simp; with_reducible rfl))
              simp only [Act.put, List.getElem_toArray, List.getElem_cons_succ, List.getElem_cons_zero, List.setIfInBounds_toArray, List.set_cons_zero, List.set_cons_succ]
              refine goes_take0 (i := 23) (v := ?gwb23) rfl (by kernel_rfl) (by kernel_rfl) (by kernel_rfl) rfl (fun _ _ _ h => h) (Or.inl ⟨by rfl, ?gxb23⟩) (by assumption) ?gqb23
              case gxb23 => (intro W9 hW9; have hc9 := cell_below hW9 y2; first | (go_simp; done) | (go_simp; with_reducible rfl))
              simp only [Act.put, List.getElem_toArray, List.getElem_cons_succ, List.getElem_cons_zero, List.setIfInBounds_toArray, List.set_cons_zero, List.set_cons_succ]
              refine goes_take0 (i := 24) (v := ?gwb24) rfl (by kernel_rfl) (by kernel_rfl) (by kernel_rfl) rfl (fun _ _ _ h => h) (Or.inl ⟨by rfl, ?gxb24⟩) (by assumption) ?gqb24
              case gxb24 => (intro W9 _; first | (go_simp; done) | (go_simp; with_reducible rfl))
              simp only [Act.put, List.getElem_toArray, List.getElem_cons_succ, List.getElem_cons_zero, List.setIfInBounds_toArray, List.set_cons_zero, List.set_cons_succ]
              refine goes_take0 (i := 25) (v := ?gwb25) rfl (by kernel_rfl) (by kernel_rfl) (by kernel_rfl) rfl (fun _ _ _ h => h) (Or.inl ⟨by rfl, ?gxb25⟩) (by assumption) ?gqb25
              case gxb25 => (intro W9 _; first | (go_simp; done) | (go_simp; with_reducible rfl))
              simp only [Act.put, List.getElem_toArray, List.getElem_cons_succ, List.getElem_cons_zero, List.setIfInBounds_toArray, List.set_cons_zero, List.set_cons_succ]
              refine goes_take0 (i := 26) (v := ?gwb26) rfl (by kernel_rfl) (by kernel_rfl) (by kernel_rfl) rfl (fun _ _ _ h => h) (Or.inl ⟨by rfl, ?gxb26⟩) (by assumption) ?gqb26
              case gxb26 => (intro W9 _; first | (go_simp; done) | (go_simp; with_reducible rfl))
              simp only [Act.put, List.getElem_toArray, List.getElem_cons_succ, List.getElem_cons_zero, List.setIfInBounds_toArray, List.set_cons_zero, List.set_cons_succ]
              refine goes_take0 (i := 27) (v := ?gwb27) rfl (by kernel_rfl) (by kernel_rfl) (by kernel_rfl) rfl (fun _ _ _ h => h) (Or.inl ⟨by rfl, ?gxb27⟩) (by assumption) ?gqb27
              case gxb27 => (intro W9 _; first | (go_simp; done) | (go_simp; with_reducible rfl))
              simp only [Act.put, List.getElem_toArray, List.getElem_cons_succ, List.getElem_cons_zero, List.setIfInBounds_toArray, List.set_cons_zero, List.set_cons_succ]
              refine goes_take0 (i := 28) (v := ?gwb28) rfl (by kernel_rfl) (by kernel_rfl) (by kernel_rfl) rfl (fun _ _ _ h => h) (Or.inl ⟨by rfl, ?gxb28⟩) (by assumption) ?gqb28
              case gxb28 => (intro W9 _; first | (go_simp; done) | (go_simp; with_reducible rfl))
              simp only [Act.put, List.getElem_toArray, List.getElem_cons_succ, List.getElem_cons_zero, List.setIfInBounds_toArray, List.set_cons_zero, List.set_cons_succ]
              refine goes_take0 (i := 29) (v := ?gwb29) rfl (by kernel_rfl) (by kernel_rfl) (by kernel_rfl) rfl (fun _ _ _ h => h) (Or.inl ⟨by rfl, ?gxb29⟩) (by assumption) ?gqb29
              case gxb29 => (intro W9 hW9; have hc9 := cell_below hW9 yz; first | (go_simp; done) | (go_simp; with_reducible rfl))
              simp only [Act.put, List.getElem_toArray, List.getElem_cons_succ, List.getElem_cons_zero, List.setIfInBounds_toArray, List.set_cons_zero, List.set_cons_succ]
              refine goes_take0 (i := 30) (v := ?gwb30) rfl (by kernel_rfl) (by kernel_rfl) (by kernel_rfl) rfl (fun _ _ _ h => h) (Or.inl ⟨by rfl, ?gxb30⟩) (by assumption) ?gqb30
              case gxb30 => (intro W9 _; first | (go_simp; done) | (go_simp; with_reducible rfl))
              simp only [Act.put, List.getElem_toArray, List.getElem_cons_succ, List.getElem_cons_zero, List.setIfInBounds_toArray, List.set_cons_zero, List.set_cons_succ]
              refine goes_take0 (i := 31) (v := ?gwb31) rfl (by kernel_rfl) (by kernel_rfl) (by kernel_rfl) rfl (fun _ _ _ h => h) (Or.inl ⟨by rfl, ?gxb31⟩) (by assumption) ?gqb31
              case gxb31 => (intro W9 _; first | (go_simp; done) | (go_simp; with_reducible rfl))
              simp only [Act.put, List.getElem_toArray, List.getElem_cons_succ, List.getElem_cons_zero, List.setIfInBounds_toArray, List.set_cons_zero, List.set_cons_succ]
              refine goes_take0 (i := 32) (v := ?gwb32) rfl (by kernel_rfl) (by kernel_rfl) (by kernel_rfl) rfl (fun _ _ _ h => h) (Or.inl ⟨by rfl, ?gxb32⟩) (by assumption) ?gqb32
              case gxb32 => (intro W9 _; first | (go_simp; done) | (go_simp; with_reducible rfl))
              simp only [Act.put, List.getElem_toArray, List.getElem_cons_succ, List.getElem_cons_zero, List.setIfInBounds_toArray, List.set_cons_zero, List.set_cons_succ]
              refine goes_done (by kernel_rfl) ?_ _
              have hk5 := HLK.out
              go_wp2
              go_roundw
              case rel => exact ⟨k + 1, by simp, hlt, HB5⟩
              case measure => simp only [intOf]; omega
            · have e0 : (ws[k].kind == 0) = false := i_no hkd
              clear hg hby hel hkd hpos
              go_upto_region 13 with fail
              go_quiet (fail)
              have hk5 := HLK.out
              go_wp2
              go_roundw
              case rel => exact ⟨k + 1, by simp, hlt, Lib.hid (below_drewN HBR.out _)⟩
              case measure => simp only [intOf]; omega
        · obtain rfl : k = ws.length := by omega
          have hd3 : decide ((ws.length : Int) < ws.length) = false := by simp
          have HPL := Lib.hid (plain_out _ ws wr (HW2.out.below HBR.out) (by have := HLS.out; omega))
          have HPM := Lib.hid (fun W (hW : Below wr.heap.size wr W) => plain_out _ vs W ((HW4.out.below HBR.out).below hW) (by rw [HLR.out]; have := HLS.out; omega))
          go_wp2_with (first
            | (go_at_call 11; (with_reducible refine HPL.out.mono ?_); rintro e w5 ⟨a5, c5, rfl, hw5, hb5⟩; have HPM5 := Lib.hid (HPM.out w5 hb5.out))
            | (go_at_call 11; (with_reducible refine HPM5.out.mono ?_); rintro e w6 ⟨a6, c6, rfl, hw6, hb6⟩; have HS := Lib.hid (same_any false _ _ ws vs w6 (hw5.out.below hb6.out) hw6.out HSM.out (by have := HLS.out; omega)))
            | (go_at_call 10; (with_reducible refine HS.out.mono ?_); rintro e w7 ⟨rfl, h7⟩))
          go_ret
          refine ⟨rfl, ?_⟩
          obtain ⟨n, rfl⟩ := h7
          exact below_drewN ((HB4.out.trans (HBR.out.mono HB4.out.size)).trans ((hb5.out.trans (hb6.out.mono hb5.out.size)).mono (Nat.le_trans HB4.out.size HBR.out.size))) n
  · have hd : decide ((s.size : Int) > 500) = true := decide_eq_true (by omega)
    have hd2 : decide ((500 : Int) < s.size) = true := decide_eq_true (by omega)
    go_enter Try.func5, Try.ntmps5
    go_wp2_with (go_at_call 7; (with_reducible refine HA.out.mono ?_); rintro e w1 ⟨rfl, hb1⟩)
    go_ret
    exact ⟨rfl, hb1.out⟩
end Go.Proofs.Ytplgnbedcjanhaa
