/- The laws' examples hold. -/
import Derived.Test.YtplgnbedcjanhaaBm
import Derived.Test.YtplgnbedcjanhaaBo
import Derived.Test.YtplgnbedcjanhaaBq
set_option maxRecDepth 100000
namespace Go.Proofs.Ytplgnbedcjanhaa
open Go.RowKit

theorem all_yes {s : ByteArray} {l : List Nat} {ws : List Wd} (hs : bytesOf s = l) (hsz : s.size ≤ 65536) (h : allW l = (ws, none)) (w : World) :
    Calls Try.prog 8 #[.string s] w fun e w' => ∃ a c, e = .returned (.tuple #[.slice a ws.length c, .int .i64 0, .int .i64 0]) ∧ Hid (WsAt w' (.slice a ws.length c) ws) ∧ Hid (Below w.heap.size w w') :=
  (all_any s l hs hsz w).mono fun e w' ⟨h1, h2⟩ => by
    rw [h] at h1
    rcases h1 with ⟨p, h3, _⟩ | ⟨_, v, rfl, h3⟩
    · cases h3
    · obtain ⟨a, c, rfl⟩ := own_form h3.out
      exact ⟨a, c, rfl, Lib.hid (ws_row h3.out rfl), h2⟩
theorem all_no {s : ByteArray} {l : List Nat} {ws : List Wd} {p : Nat} (hs : bytesOf s = l) (hsz : s.size ≤ 65536) (h : allW l = (ws, some p)) (w : World) :
    Calls Try.prog 8 #[.string s] w fun e w' => e = .returned (.tuple #[.slice none 0 0, .int .i64 120, .int .i64 p]) ∧ Hid (Below w.heap.size w w') :=
  (all_any s l hs hsz w).mono fun e w' ⟨h1, h2⟩ => by
    rw [h] at h1
    rcases h1 with ⟨q, h3, rfl⟩ | ⟨h3, _⟩
    · cases h3; exact ⟨rfl, h2⟩
    · cases h3
theorem ws_take {w : World} {a : Option Addr} {n c k : Nat} {ws : List Wd} (h : WsAt w (.slice a n c) ws) (hk : k ≤ ws.length) : WsAt w (.slice a k c) (ws.take k) := by
  obtain ⟨a', c', e, hc, h1⟩ := h
  cases e
  have hl : (ws.take k).length = k := by rw [List.length_take]; omega
  refine ⟨_, _, by rw [hl], by rw [hl]; omega, fun i hi => ?_⟩
  rw [hl] at hi
  obtain ⟨b, o, rfl, h2, h3, h4⟩ := h1 i (by omega)
  exact ⟨b, o, rfl, by rw [List.getElem_take]; exact h2, by rw [List.getElem_take]; exact h3, by rw [List.getElem_take]; exact h4⟩
set_option maxHeartbeats 8000000 in
theorem awake_any (w : World) : Calls Try.prog 7 #[] w fun e w' => e = .returned (.bool true) ∧ Hid (Below w.heap.size w w') := by
  have HA1 : Hid (∀ W, Calls Try.prog 8 #[.string ⟨#[65, 32, 58, 32, 98, 124, 99, 32, 59, 32, 35, 32, 120]⟩] W fun e w' => ∃ a c, e = .returned (.tuple #[.slice a 6 c, .int .i64 0, .int .i64 0]) ∧ Hid (WsAt w' (.slice a 6 c) [⟨0, [65], 0⟩, ⟨3, [58], 2⟩, ⟨0, [98], 4⟩, ⟨3, [124], 5⟩, ⟨0, [99], 6⟩, ⟨3, [59], 8⟩]) ∧ Hid (Below W.heap.size W w')) := Lib.hid (fun W => all_yes (l := [65, 32, 58, 32, 98, 124, 99, 32, 59, 32, 35, 32, 120]) rfl (by decide) ex1 W)
  have HA2 : Hid (∀ W, Calls Try.prog 8 #[.string ⟨#[97, 10, 32, 47, 120, 10, 47]⟩] W fun e w' => e = .returned (.tuple #[.slice none 0 0, .int .i64 120, .int .i64 3]) ∧ Hid (Below W.heap.size W w')) := Lib.hid (fun W => all_no (l := [97, 10, 32, 47, 120, 10, 47]) rfl (by decide) ex2 W)
  have HA3 : Hid (∀ W, Calls Try.prog 8 #[.string ⟨#[47, 97, 92, 47, 98, 47, 32, 49, 50]⟩] W fun e w' => ∃ a c, e = .returned (.tuple #[.slice a 2 c, .int .i64 0, .int .i64 0]) ∧ Hid (WsAt w' (.slice a 2 c) [⟨2, [97, 92, 47, 98], 0⟩, ⟨1, [49, 50], 7⟩]) ∧ Hid (Below W.heap.size W w')) := Lib.hid (fun W => all_yes (l := [47, 97, 92, 47, 98, 47, 32, 49, 50]) rfl (by decide) ex3 W)
  have HLN : Hid (∀ W, Calls Try.prog 12 #[.string ⟨#[97, 10, 98, 99]⟩, .int .i64 3] W fun e w' => e = .returned (.tuple #[.int .i64 2, .int .i64 2]) ∧ w' = W) := Lib.hid (fun W => line_any ⟨#[97, 10, 98, 99]⟩ [97, 10, 98, 99] rfl (by decide) 3 3 (by decide) (by decide) W)
  have HI1 : Hid (∀ W, Calls Try.prog 14 #[.string ⟨#[97, 95, 49]⟩] W fun e w' => e = .returned (.bool true) ∧ Hid (Below W.heap.size W w')) := Lib.hid (fun W => isName_any ⟨#[97, 95, 49]⟩ [97, 95, 49] rfl (by decide) W)
  have HI2 : Hid (∀ W, Calls Try.prog 14 #[.string ⟨#[49, 97]⟩] W fun e w' => e = .returned (.bool false) ∧ Hid (Below W.heap.size W w')) := Lib.hid (fun W => isName_any ⟨#[49, 97]⟩ [49, 97] rfl (by decide) W)
  have HJ : Hid (∀ (v : Value) W, WsAt W v [⟨0, [65], 0⟩, ⟨3, [58], 2⟩, ⟨0, [98], 4⟩] → Calls Try.prog 16 #[v] W fun e w' => e = .returned (.string ⟨#[65, 32, 58, 32, 98]⟩) ∧ Hid (Below W.heap.size W w')) := Lib.hid (fun v W h => join_any v _ W h (by decide) (by decide))
  obtain ⟨N, hN⟩ : ∃ N, w.heap.size = N := ⟨_, rfl⟩
  have HN := Lib.hid hN
  rw [hN]
  clear hN
  go_enter Try.func7, Try.ntmps7
  go_upto_region 2 with (go_at_call 8; (with_reducible refine (HA1.out _).mono ?_); rintro e w1 ⟨a1, c1, rfl, hw1, hb1⟩)
  go_upto_region 3 with (go_at_call 8; (with_reducible refine (HA2.out _).mono ?_); rintro e w2 ⟨rfl, hb2⟩)
  go_upto_region 4 with (go_at_call 8; (with_reducible refine (HA3.out _).mono ?_); rintro e w3 ⟨a3, c3, rfl, hw3, hb3⟩)
  have HW := Lib.hid (hw1.out.below (hb2.out.trans (hb3.out.mono hb2.out.size)))
  have HB3 : Hid (Below N w w3) := Lib.hid (by
    have h1 := hb1.out
    rw [HN.out] at h1
    exact (h1.trans (hb2.out.mono (by have := h1.size; have := HN.out; omega))).trans (hb3.out.mono (by have := h1.size; have := hb2.out.size; have := HN.out; omega)))
  clear hw1 hb1 hb2 hb3
  obtain ⟨b1, o1, rfl, x0, x1, x2⟩ := HW.out.at (i := 0) (by decide)
  obtain ⟨_, _, e1, y0, _, _⟩ := HW.out.at (i := 1) (by decide)
  cases e1
  obtain ⟨_, _, e1, _, z1, z2⟩ := HW.out.at (i := 4) (by decide)
  cases e1
  obtain ⟨b3, o3, rfl, u0, u1, u2⟩ := hw3.out.at (i := 0) (by decide)
  obtain ⟨_, _, e1, v0, _, _⟩ := hw3.out.at (i := 1) (by decide)
  cases e1
  have HWT := Lib.hid (ws_take (k := 3) HW.out (by decide))
  have hc1 : 6 ≤ c1 := by obtain ⟨_, _, e, h, _⟩ := HW.out; cases e; exact h
  have hc0 : c1 ≠ 0 := by omega
  have X0 : w3.cell? ⟨b1, o1, none⟩ = some (.int .i64 0) := x0
  have Y0 : w3.cell? ⟨b1, o1 + 3, none⟩ = some (.int .i64 3) := y0
  have Z1 : w3.cell? ⟨b1, o1 + 12 + 1, none⟩ = some (.string ⟨#[99]⟩) := z1
  have Z2 : w3.cell? ⟨b1, o1 + 12 + 2, none⟩ = some (.int .i64 6) := z2
  have U0 : w3.cell? ⟨b3, o3, none⟩ = some (.int .i64 2) := u0
  have U1 : w3.cell? ⟨b3, o3 + 1, none⟩ = some (.string ⟨#[97, 92, 47, 98]⟩) := u1
  have V0 : w3.cell? ⟨b3, o3 + 3, none⟩ = some (.int .i64 1) := v0
  have HXB := Lib.hid (cell_lt X0)
  have HX0 := Lib.hid X0
  clear x0 x1 x2 y0 z1 z2 u0 u1 u2 v0 hw3 HA1 HA2 HA3
  go_upto_region 5 with (go_at_call 12; (with_reducible refine (HLN.out _).mono ?_); rintro e w4 ⟨rfl, h9⟩; subst w4)
  dsimp only [List.append_eq, List.cons_append, List.nil_append]
  go_wp2_with (first
    | (go_at_call 16; (with_reducible refine (HJ.out _ _ HWT.out).mono ?_); rintro e w5 ⟨rfl, hb5⟩; have HX5 := Lib.hid (cell_below hb5.out HX0.out); have x5 := HX5.out)
    | (go_at_call 14; (with_reducible refine (HI1.out _).mono ?_); rintro e w6 ⟨rfl, hb6⟩; have HX6 := Lib.hid (cell_below hb6.out HX5.out); have x6 := HX6.out)
    | (go_at_call 14; (with_reducible refine (HI2.out _).mono ?_); rintro e w7 ⟨rfl, hb7⟩; have x7 := cell_below hb7.out HX6.out))
  go_ret
  exact ⟨rfl, Lib.hid (((HB3.out.trans (hb5.out.mono (by have := HB3.out.size; have := HN.out; omega))).trans (hb6.out.mono (by have := HB3.out.size; have := hb5.out.size; have := HN.out; omega))).trans (hb7.out.mono (by have := HB3.out.size; have := hb5.out.size; have := hb6.out.size; have := HN.out; omega)))⟩
end Go.Proofs.Ytplgnbedcjanhaa
