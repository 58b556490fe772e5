/- The walk of the law WordsAll. -/
import Derived.Test.YtplgnbedcjanhaaBr
import Derived.Test.YtplgnbedcjanhaaBp
set_option maxRecDepth 100000
namespace Go.Proofs.Ytplgnbedcjanhaa
open Go.RowKit

/-- What All answers: an error's number, where it is, the words. -/
def outE (r : List Wd × Option Nat) : Nat × Nat × List Wd := match r.2 with | some p => (120, p, []) | none => (0, 0, r.1)
theorem WsAt.nil (w : World) : WsAt w (.slice none 0 0) [] := ⟨none, 0, rfl, Nat.le_refl _, fun i hi => by simp at hi⟩
theorem all_out (s : ByteArray) (l : List Nat) (hs : bytesOf s = l) (hsz : s.size ≤ 65536) (w : World) :
    Calls Try.prog 8 #[.string s] w fun e w' => ∃ a c, e = .returned (.tuple #[.slice a (outE (allW l)).2.2.length c, .int .i64 ((outE (allW l)).1 : Nat), .int .i64 ((outE (allW l)).2.1 : Nat)]) ∧ Hid (WsAt w' (.slice a (outE (allW l)).2.2.length c) (outE (allW l)).2.2) ∧ Hid (Below w.heap.size w w') :=
  (all_any s l hs hsz w).mono fun e w' ⟨h1, h2⟩ => by
    rcases h1 with ⟨p, h3, rfl⟩ | ⟨h3, v, rfl, h4⟩
    · have e1 : outE (allW l) = (120, p, []) := by unfold outE; rw [h3]
      rw [e1]
      exact ⟨none, 0, rfl, Lib.hid (WsAt.nil _), h2⟩
    · have e1 : outE (allW l) = (0, 0, (allW l).1) := by unfold outE; rw [h3]
      rw [e1]
      obtain ⟨a, c, rfl⟩ := own_form h4.out
      exact ⟨a, c, rfl, Lib.hid (ws_row h4.out rfl), h2⟩
theorem rall_out (s : ByteArray) (l : List Nat) (hs : bytesOf s = l) (hsz : s.size ≤ 65536) (w : World) :
    Calls Try.prog 9 #[.string s] w fun e w' => ∃ a c, e = .returned (.tuple #[.slice a (outE (allW l)).2.2.length c, .int .i64 ((outE (allW l)).1 : Nat), .int .i64 ((outE (allW l)).2.1 : Nat)]) ∧ Hid (WsAt w' (.slice a (outE (allW l)).2.2.length c) (outE (allW l)).2.2) ∧ Hid (Below w.heap.size w w') :=
  (rall_any s l hs hsz w).mono fun e w' ⟨h1, h2⟩ => by
    rcases h1 with ⟨p, h3, rfl⟩ | ⟨h3, v, rfl, h4⟩
    · have e1 : outE (allW l) = (120, p, []) := by unfold outE; rw [h3]
      rw [e1]
      exact ⟨none, 0, rfl, Lib.hid (WsAt.nil _), h2⟩
    · have e1 : outE (allW l) = (0, 0, (allW l).1) := by unfold outE; rw [h3]
      rw [e1]
      obtain ⟨a, c, rfl⟩ := own_form h4.out
      exact ⟨a, c, rfl, Lib.hid (ws_row h4.out rfl), h2⟩
theorem plain_out (v : Value) (ws : List Wd) (w : World) (h : WsAt w v ws) (hn : ws.length ≤ 100000) :
    Calls Try.prog 11 #[v] w fun e w' => ∃ a c, e = .returned (.slice a ws.length c) ∧ Hid (WsAt w' (.slice a ws.length c) ws) ∧ Hid (Below w.heap.size w w') :=
  (plain_any v ws w h hn).mono fun e w' ⟨u, h1, h2, h3⟩ => by
    obtain ⟨a, c, rfl⟩ := own_form h2.out
    exact ⟨a, c, h1, Lib.hid (ws_row h2.out rfl), h3⟩
theorem outE_len (l : List Nat) : (outE (allW l)).2.2.length ≤ l.length := by
  have h := wds_len (l := l) (n := l.length - skN false l) (p := skN false l) (Nat.le_refl _)
  unfold outE
  cases h2 : (allW l).2 with
  | some p => exact Nat.zero_le _
  | none => show (wds l (skN false l)).1.length ≤ _; omega
set_option maxHeartbeats 8000000 in
theorem all_law (s : ByteArray) (w : World) : Calls Try.prog 3 #[.string s] w fun e w' => e = .returned (.bool true) ∧ Below w.heap.size w w' := by
  have HA := Lib.hid (awake_any w)
  by_cases hsz : s.size ≤ 500
  · have hd : decide ((s.size : Int) > 500) = false := decide_eq_false (by omega)
    have hd2 : decide ((500 : Int) < s.size) = false := decide_eq_false (by omega)
    have HP := Lib.hid (fun W => all_out s (bytesOf s) rfl (by omega) W)
    have HR := Lib.hid (fun W => rall_out s (bytesOf s) rfl (by omega) W)
    have hln := outE_len (bytesOf s)
    rw [bytesOf_len] at hln
    generalize outE (allW (bytesOf s)) = r at *
    obtain ⟨en, at', ws⟩ := r
    dsimp only at HP HR hln
    have HLN := Lib.hid hln
    have e1 : ((en : Int) == (en : Int)) = true := eq_yes rfl
    have e2 : ((at' : Int) == (at' : Int)) = true := eq_yes rfl
    clear hln
    go_enter Try.func3, Try.ntmps3
    go_upto_region 6 with (go_at_call 7; (with_reducible refine HA.out.mono ?_); rintro e w1 ⟨rfl, hb1⟩)
    go_upto_region 7 with (go_at_call 8; (with_reducible refine (HP.out _).mono ?_); rintro e w2 ⟨a2, c2, rfl, hw2, hb2⟩)
    go_upto_region 8 with (go_at_call 9; (with_reducible refine (HR.out _).mono ?_); rintro e w3 ⟨a3, c3, rfl, hw3, hb3⟩)
    have HPL := Lib.hid (plain_out _ ws w3 (hw2.out.below hb3.out) (by have := HLN.out; omega))
    have HB3 : Hid (Below w.heap.size w w3) := Lib.hid ((hb1.out.trans (hb2.out.mono hb1.out.size)).trans (hb3.out.mono (Nat.le_trans hb1.out.size hb2.out.size)))
    clear hw2 hb1 hb2 hb3
    go_wp2_with (first
      | (go_at_call 11; (with_reducible refine HPL.out.mono ?_); rintro e w4 ⟨a4, c4, rfl, hw4, hb4⟩; have HS := Lib.hid (same_any true _ _ ws ws w4 hw4.out (hw3.out.below hb4.out) (SameW.refl _ _) (by have := HLN.out; omega)))
      | (go_at_call 10; (with_reducible refine HS.out.mono ?_); rintro e w5 ⟨rfl, h5⟩))
    go_ret
    refine ⟨rfl, ?_⟩
    obtain ⟨n, rfl⟩ := h5
    exact below_drewN (HB3.out.trans (hb4.out.mono HB3.out.size)) n
  · have hd : decide ((s.size : Int) > 500) = true := decide_eq_true (by omega)
    have hd2 : decide ((500 : Int) < s.size) = true := decide_eq_true (by omega)
    go_enter Try.func3, Try.ntmps3
    go_wp2_with (go_at_call 7; (with_reducible refine HA.out.mono ?_); rintro e w1 ⟨rfl, hb1⟩)
    go_ret
    exact ⟨rfl, hb1.out⟩
end Go.Proofs.Ytplgnbedcjanhaa
