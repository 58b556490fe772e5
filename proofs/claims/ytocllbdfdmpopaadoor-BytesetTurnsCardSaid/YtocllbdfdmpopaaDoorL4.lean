/- The walk of BytesetTurns. -/
import Derived.Test.YtocllbdfdmpopaaDoorW0
import Derived.Test.YtocllbdfdmpopaaDoorN
import Derived.StillTailTactics
set_option maxRecDepth 100000
namespace Go.Proofs.YtocllbdfdmpopaaDoor
open Go.RowKit
theorem u_keep {w5 W W' : World} {b c : Nat} {x0 x1 x2 x3 y0 y1 y2 y3 : Value} (hbl : b < w5.heap.size) (hcl : c < w5.heap.size)
    (h : W.cell? ⟨b, 0, none⟩ = some x0 ∧ W.cell? ⟨b, 1, none⟩ = some x1 ∧ W.cell? ⟨b, 2, none⟩ = some x2 ∧ W.cell? ⟨b, 3, none⟩ = some x3 ∧ W.cell? ⟨c, 0, none⟩ = some y0 ∧ W.cell? ⟨c, 1, none⟩ = some y1 ∧ W.cell? ⟨c, 2, none⟩ = some y2 ∧ W.cell? ⟨c, 3, none⟩ = some y3 ∧ Below w5.heap.size w5 W)
    (hb : Below W.heap.size W W') :
    W'.cell? ⟨b, 0, none⟩ = some x0 ∧ W'.cell? ⟨b, 1, none⟩ = some x1 ∧ W'.cell? ⟨b, 2, none⟩ = some x2 ∧ W'.cell? ⟨b, 3, none⟩ = some x3 ∧ W'.cell? ⟨c, 0, none⟩ = some y0 ∧ W'.cell? ⟨c, 1, none⟩ = some y1 ∧ W'.cell? ⟨c, 2, none⟩ = some y2 ∧ W'.cell? ⟨c, 3, none⟩ = some y3 ∧ Below w5.heap.size w5 W' := by
  obtain ⟨h0, h1, h2, h3, h4, h5, h6, h7, h8⟩ := h
  have lb : b < W.heap.size := Nat.lt_of_lt_of_le hbl h8.size
  have lc : c < W.heap.size := Nat.lt_of_lt_of_le hcl h8.size
  have cb (o : Nat) := hb.cell (p := ⟨b, o, none⟩) lb
  have cc (o : Nat) := hb.cell (p := ⟨c, o, none⟩) lc
  exact ⟨(cb _).trans h0, (cb _).trans h1, (cb _).trans h2, (cb _).trans h3, (cc _).trans h4, (cc _).trans h5, (cc _).trans h6, (cc _).trans h7, h8.trans (hb.mono h8.size)⟩
theorem u_below {w5 W : World} {b c : Nat} {x0 x1 x2 x3 y0 y1 y2 y3 : Value}
    (h : W.cell? ⟨b, 0, none⟩ = some x0 ∧ W.cell? ⟨b, 1, none⟩ = some x1 ∧ W.cell? ⟨b, 2, none⟩ = some x2 ∧ W.cell? ⟨b, 3, none⟩ = some x3 ∧ W.cell? ⟨c, 0, none⟩ = some y0 ∧ W.cell? ⟨c, 1, none⟩ = some y1 ∧ W.cell? ⟨c, 2, none⟩ = some y2 ∧ W.cell? ⟨c, 3, none⟩ = some y3 ∧ Below w5.heap.size w5 W) : Below w5.heap.size w5 W := h.2.2.2.2.2.2.2.2
theorem v_keep {w5 W W' : World} {b c o0 o1 o2 o3 : Nat} {x0 x1 x2 x3 y0 y1 y2 y3 : Value} (hbl : b < w5.heap.size) (hcl : c < w5.heap.size)
    (h : W.cell? ⟨b, 0, none⟩ = some x0 ∧ W.cell? ⟨b, 1, none⟩ = some x1 ∧ W.cell? ⟨b, 2, none⟩ = some x2 ∧ W.cell? ⟨b, 3, none⟩ = some x3 ∧ W.cell? ⟨c, o0, none⟩ = some y0 ∧ W.cell? ⟨c, o1, none⟩ = some y1 ∧ W.cell? ⟨c, o2, none⟩ = some y2 ∧ W.cell? ⟨c, o3, none⟩ = some y3 ∧ Below w5.heap.size w5 W)
    (hb : Below W.heap.size W W') :
    W'.cell? ⟨b, 0, none⟩ = some x0 ∧ W'.cell? ⟨b, 1, none⟩ = some x1 ∧ W'.cell? ⟨b, 2, none⟩ = some x2 ∧ W'.cell? ⟨b, 3, none⟩ = some x3 ∧ W'.cell? ⟨c, o0, none⟩ = some y0 ∧ W'.cell? ⟨c, o1, none⟩ = some y1 ∧ W'.cell? ⟨c, o2, none⟩ = some y2 ∧ W'.cell? ⟨c, o3, none⟩ = some y3 ∧ Below w5.heap.size w5 W' := by
  obtain ⟨h0, h1, h2, h3, h4, h5, h6, h7, h8⟩ := h
  have lb : b < W.heap.size := Nat.lt_of_lt_of_le hbl h8.size
  have lc : c < W.heap.size := Nat.lt_of_lt_of_le hcl h8.size
  have cb (o : Nat) := hb.cell (p := ⟨b, o, none⟩) lb
  have cc (o : Nat) := hb.cell (p := ⟨c, o, none⟩) lc
  exact ⟨(cb _).trans h0, (cb _).trans h1, (cb _).trans h2, (cb _).trans h3, (cc _).trans h4, (cc _).trans h5, (cc _).trans h6, (cc _).trans h7, h8.trans (hb.mono h8.size)⟩
theorem v_below {w5 W : World} {b c o0 o1 o2 o3 : Nat} {x0 x1 x2 x3 y0 y1 y2 y3 : Value}
    (h : W.cell? ⟨b, 0, none⟩ = some x0 ∧ W.cell? ⟨b, 1, none⟩ = some x1 ∧ W.cell? ⟨b, 2, none⟩ = some x2 ∧ W.cell? ⟨b, 3, none⟩ = some x3 ∧ W.cell? ⟨c, o0, none⟩ = some y0 ∧ W.cell? ⟨c, o1, none⟩ = some y1 ∧ W.cell? ⟨c, o2, none⟩ = some y2 ∧ W.cell? ⟨c, o3, none⟩ = some y3 ∧ Below w5.heap.size w5 W) : Below w5.heap.size w5 W := h.2.2.2.2.2.2.2.2
theorem union_here (x y : BitVec 256) (w : World) (n : Nat) (hn : w.heap.size = n) : Calls Tryd.prog 24 #[.slice (some ⟨n, 0, none⟩) 2 2] (w.alloc (.cells #[.int .u64 (wd x 0), .int .u64 (wd x 1), .int .u64 (wd x 2), .int .u64 (wd x 3), .int .u64 (wd y 0), .int .u64 (wd y 1), .int .u64 (wd y 2), .int .u64 (wd y 3)] 24)) fun e w' => e = .returned (.agg #[.int .u64 (wd (x ||| y) 0), .int .u64 (wd (x ||| y) 1), .int .u64 (wd (x ||| y) 2), .int .u64 (wd (x ||| y) 3)]) ∧ Below (w.alloc (.cells #[.int .u64 (wd x 0), .int .u64 (wd x 1), .int .u64 (wd x 2), .int .u64 (wd x 3), .int .u64 (wd y 0), .int .u64 (wd y 1), .int .u64 (wd y 2), .int .u64 (wd y 3)] 24)).heap.size (w.alloc (.cells #[.int .u64 (wd x 0), .int .u64 (wd x 1), .int .u64 (wd x 2), .int .u64 (wd x 3), .int .u64 (wd y 0), .int .u64 (wd y 1), .int .u64 (wd y 2), .int .u64 (wd y 3)] 24)) w' := by
  subst hn
  have := union_any _ _ _ (sl_two w x y)
  rw [union_two] at this
  exact this
theorem union_hereD (x y : BitVec 256) (w : World) (n : Nat) (hn : w.heap.size = n) : Calls Tryd.prog 24 #[.slice (some ⟨n, 0, none⟩) 2 2] (w.alloc (.cells #[.int .u64 (wd x 0), .int .u64 (wd x 1), .int .u64 (wd x 2), .int .u64 (wd x 3), .int .u64 (wd y 0), .int .u64 (wd y 1), .int .u64 (wd y 2), .int .u64 (wd y 3)] 24)).drew fun e w' => e = .returned (.agg #[.int .u64 (wd (x ||| y) 0), .int .u64 (wd (x ||| y) 1), .int .u64 (wd (x ||| y) 2), .int .u64 (wd (x ||| y) 3)]) ∧ Below (w.alloc (.cells #[.int .u64 (wd x 0), .int .u64 (wd x 1), .int .u64 (wd x 2), .int .u64 (wd x 3), .int .u64 (wd y 0), .int .u64 (wd y 1), .int .u64 (wd y 2), .int .u64 (wd y 3)] 24)).drew.heap.size (w.alloc (.cells #[.int .u64 (wd x 0), .int .u64 (wd x 1), .int .u64 (wd x 2), .int .u64 (wd x 3), .int .u64 (wd y 0), .int .u64 (wd y 1), .int .u64 (wd y 2), .int .u64 (wd y 3)] 24)).drew w' := by
  subst hn
  have := union_any _ _ (w.alloc (.cells #[.int .u64 (wd x 0), .int .u64 (wd x 1), .int .u64 (wd x 2), .int .u64 (wd x 3), .int .u64 (wd y 0), .int .u64 (wd y 1), .int .u64 (wd y 2), .int .u64 (wd y 3)] 24)).drew (show Sl (w.alloc (.cells #[.int .u64 (wd x 0), .int .u64 (wd x 1), .int .u64 (wd x 2), .int .u64 (wd x 3), .int .u64 (wd y 0), .int .u64 (wd y 1), .int .u64 (wd y 2), .int .u64 (wd y 3)] 24)).drew _ [x, y] from sl_two w x y)
  rw [union_two] at this
  exact this
theorem inter_here (x y : BitVec 256) (w : World) (n : Nat) (hn : w.heap.size = n) : Calls Tryd.prog 26 #[.slice (some ⟨n, 0, none⟩) 2 2] (w.alloc (.cells #[.int .u64 (wd x 0), .int .u64 (wd x 1), .int .u64 (wd x 2), .int .u64 (wd x 3), .int .u64 (wd y 0), .int .u64 (wd y 1), .int .u64 (wd y 2), .int .u64 (wd y 3)] 24)) fun e w' => e = .returned (.agg #[.int .u64 (wd (x &&& y) 0), .int .u64 (wd (x &&& y) 1), .int .u64 (wd (x &&& y) 2), .int .u64 (wd (x &&& y) 3)]) ∧ Below (w.alloc (.cells #[.int .u64 (wd x 0), .int .u64 (wd x 1), .int .u64 (wd x 2), .int .u64 (wd x 3), .int .u64 (wd y 0), .int .u64 (wd y 1), .int .u64 (wd y 2), .int .u64 (wd y 3)] 24)).heap.size (w.alloc (.cells #[.int .u64 (wd x 0), .int .u64 (wd x 1), .int .u64 (wd x 2), .int .u64 (wd x 3), .int .u64 (wd y 0), .int .u64 (wd y 1), .int .u64 (wd y 2), .int .u64 (wd y 3)] 24)) w' := by
  subst hn
  have := inter_any _ _ _ (sl_two w x y)
  rw [inter_two] at this
  exact this
theorem inter_hereD (x y : BitVec 256) (w : World) (n : Nat) (hn : w.heap.size = n) : Calls Tryd.prog 26 #[.slice (some ⟨n, 0, none⟩) 2 2] (w.alloc (.cells #[.int .u64 (wd x 0), .int .u64 (wd x 1), .int .u64 (wd x 2), .int .u64 (wd x 3), .int .u64 (wd y 0), .int .u64 (wd y 1), .int .u64 (wd y 2), .int .u64 (wd y 3)] 24)).drew fun e w' => e = .returned (.agg #[.int .u64 (wd (x &&& y) 0), .int .u64 (wd (x &&& y) 1), .int .u64 (wd (x &&& y) 2), .int .u64 (wd (x &&& y) 3)]) ∧ Below (w.alloc (.cells #[.int .u64 (wd x 0), .int .u64 (wd x 1), .int .u64 (wd x 2), .int .u64 (wd x 3), .int .u64 (wd y 0), .int .u64 (wd y 1), .int .u64 (wd y 2), .int .u64 (wd y 3)] 24)).drew.heap.size (w.alloc (.cells #[.int .u64 (wd x 0), .int .u64 (wd x 1), .int .u64 (wd x 2), .int .u64 (wd x 3), .int .u64 (wd y 0), .int .u64 (wd y 1), .int .u64 (wd y 2), .int .u64 (wd y 3)] 24)).drew w' := by
  subst hn
  have := inter_any _ _ (w.alloc (.cells #[.int .u64 (wd x 0), .int .u64 (wd x 1), .int .u64 (wd x 2), .int .u64 (wd x 3), .int .u64 (wd y 0), .int .u64 (wd y 1), .int .u64 (wd y 2), .int .u64 (wd y 3)] 24)).drew (show Sl (w.alloc (.cells #[.int .u64 (wd x 0), .int .u64 (wd x 1), .int .u64 (wd x 2), .int .u64 (wd x 3), .int .u64 (wd y 0), .int .u64 (wd y 1), .int .u64 (wd y 2), .int .u64 (wd y 3)] 24)).drew _ [x, y] from sl_two w x y)
  rw [inter_two] at this
  exact this
theorem two_boxes (w : World) (a b : BitVec 256) : SetAt ((w.alloc (.cells #[.int .u64 (wd a 0), .int .u64 (wd a 1), .int .u64 (wd a 2), .int .u64 (wd a 3)] 24)).alloc (.cells #[.int .u64 (wd b 0), .int .u64 (wd b 1), .int .u64 (wd b 2), .int .u64 (wd b 3)] 24)) w.heap.size a ∧ SetAt ((w.alloc (.cells #[.int .u64 (wd a 0), .int .u64 (wd a 1), .int .u64 (wd a 2), .int .u64 (wd a 3)] 24)).alloc (.cells #[.int .u64 (wd b 0), .int .u64 (wd b 1), .int .u64 (wd b 2), .int .u64 (wd b 3)] 24)) (w.heap.size + 1) b ∧
    Below w.heap.size w ((w.alloc (.cells #[.int .u64 (wd a 0), .int .u64 (wd a 1), .int .u64 (wd a 2), .int .u64 (wd a 3)] 24)).alloc (.cells #[.int .u64 (wd b 0), .int .u64 (wd b 1), .int .u64 (wd b 2), .int .u64 (wd b 3)] 24)) := by
  have h := SetAt.new (w.alloc (.cells #[.int .u64 (wd a 0), .int .u64 (wd a 1), .int .u64 (wd a 2), .int .u64 (wd a 3)] 24)) b
  rw [World.size_alloc] at h
  exact ⟨(SetAt.new w a).alloc _, h, ((Below.refl _ _).alloc (Nat.le_refl _) _).alloc (by simp) _⟩
theorem deM (a b : BitVec 256) : ~~~(a ||| b) = ~~~a &&& ~~~b := by
  apply bv_ext
  intro x hx
  simp only [BitVec.getLsbD_not, BitVec.getLsbD_or, BitVec.getLsbD_and, hx, decide_true, Bool.true_and, Bool.not_or]
theorem not_not (a : BitVec 256) : ~~~(~~~a) = a := by
  apply bv_ext
  intro x hx
  simp only [BitVec.getLsbD_not, hx, decide_true, Bool.true_and, Bool.not_not]
set_option maxHeartbeats 4000000 in
theorem turns_any (a b : BitVec 256) (w : World) (hT : Tab w) :
    Calls Tryd.prog 6 #[(.agg #[.int .u64 (wd (a) 0), .int .u64 (wd (a) 1), .int .u64 (wd (a) 2), .int .u64 (wd (a) 3)]), (.agg #[.int .u64 (wd (b) 0), .int .u64 (wd (b) 1), .int .u64 (wd (b) 2), .int .u64 (wd (b) 3)])] w fun e w' => e = .returned (.bool true) ∧ Below w.heap.size w w' := by
  obtain ⟨k1, k2, k3⟩ := two_boxes w a b
  have K := Lib.hid k1; have K2 := Lib.hid k2; have K3 := Lib.hid k3
  clear k1 k2 k3
  go_enter Tryd.func6, Tryd.ntmps6
  go_wp2_with (go_at_call 8; refine (awake_any _ ((hT.alloc _).alloc _)).mono ?_; rintro e w1 ⟨rfl, hb1⟩)
  have ha1 := K.out.grown hb1
  have hc1 := K2.out.grown hb1
  have hB1 := K3.out.trans (hb1.mono K3.out.size)
  have hT1 := hT.below hB1
  clear hb1 K K2 K3
  have hal := ha1.lt
  have hcl := hc1.lt
  obtain ⟨c0, c1, c2, c3⟩ := ha1.cells
  obtain ⟨d0, d1, d2, d3⟩ := hc1.cells
  have q1 : ∀ w, (Op.equalIn 10000 24 (.agg #[.int .u64 (wd (~~~(a ||| b)) 0), .int .u64 (wd (~~~(a ||| b)) 1), .int .u64 (wd (~~~(a ||| b)) 2), .int .u64 (wd (~~~(a ||| b)) 3)]) (.agg #[.int .u64 (wd (~~~a &&& ~~~b) 0), .int .u64 (wd (~~~a &&& ~~~b) 1), .int .u64 (wd (~~~a &&& ~~~b) 2), .int .u64 (wd (~~~a &&& ~~~b) 3)])).run Tryd.prog w = .ok true w := fun w => by rw [deM, eq_set_same]
  have q2 := eq_set_same a
  have q3 : ∀ w, (Op.equalIn 10000 24 (.agg #[.int .u64 (wd (~~~(~~~a)) 0), .int .u64 (wd (~~~(~~~a)) 1), .int .u64 (wd (~~~(~~~a)) 2), .int .u64 (wd (~~~(~~~a)) 3)]) (.agg #[.int .u64 (wd (a) 0), .int .u64 (wd (a) 1), .int .u64 (wd (a) 2), .int .u64 (wd (a) 3)])).run Tryd.prog w = .ok true w := fun w => by rw [not_not, eq_set_same]
  go_region_held3 (fun W => W.cell? ⟨w.heap.size, 0, none⟩ = some (.int .u64 (wd a 0)) ∧ W.cell? ⟨w.heap.size, 1, none⟩ = some (.int .u64 (wd a 1)) ∧ W.cell? ⟨w.heap.size, 2, none⟩ = some (.int .u64 (wd a 2)) ∧ W.cell? ⟨w.heap.size, 3, none⟩ = some (.int .u64 (wd a 3)) ∧ W.cell? ⟨w.heap.size + 1, 0, none⟩ = some (.int .u64 (wd b 0)) ∧ W.cell? ⟨w.heap.size + 1, 1, none⟩ = some (.int .u64 (wd b 1)) ∧ W.cell? ⟨w.heap.size + 1, 2, none⟩ = some (.int .u64 (wd b 2)) ∧ W.cell? ⟨w.heap.size + 1, 3, none⟩ = some (.int .u64 (wd b 3)) ∧ Below w1.heap.size w1 W)
    (first | exact u_keep hal hcl (by assumption) (by assumption) | exact u_keep hal hcl (by assumption) ((Below.refl _ _).alloc (Nat.le_refl _) _) | exact ⟨c0, c1, c2, c3, d0, d1, d2, d3, (Below.refl _ _).drew⟩)
    (first
      | (go_at_call 24; first | ((with_reducible refine (union_here a b _ _ rfl).mono ?_); rintro e w2 ⟨rfl, hb2⟩) | ((with_reducible refine (union_hereD a b _ _ rfl).mono ?_); rintro e w2 ⟨rfl, hb2⟩))
      | (go_at_call 18; refine (not_any _ _).mono ?_; rintro e w3 ⟨rfl, hb3⟩)
      | (go_at_call 26; refine (inter_here (~~~a) (~~~b) _ _ rfl).mono ?_; rintro e w4 ⟨rfl, hb4⟩))
  have hbW := u_below (w5 := w1) (by assumption)
  have ha2 := ha1.grown hbW
  have hc2 := hc1.grown hbW
  have hB2 := hB1.trans (hbW.mono hB1.size)
  have hT2 := hT.below hB2
  clear hbW ha1 hc1 hT1 hal hcl c0 c1 c2 c3 d0 d1 d2 d3 q1 q3
  obtain ⟨c0, c1, c2, c3⟩ := ha2.cells
  have hal := ha2.lt
  go_wp2_with (go_at_call 16; refine (ranges_any a _ (hT2.alloc _)).mono ?_; rintro e w5 ⟨v, rfl, hrow, hb5⟩; obtain ⟨ad, cap, rfl⟩ := row_form hrow; rw [World.size_alloc] at hrow)
  have hB5 : Below w.heap.size w w5 := (hB2.alloc hB2.size _).trans (hb5.mono (hB2.alloc hB2.size _).size)
  have ha5 := (ha2.alloc (.cells #[.int .u64 0, .int .u64 0, .int .u64 0, .int .u64 0] 24)).grown hb5
  have hc5 := (hc2.alloc (.cells #[.int .u64 0, .int .u64 0, .int .u64 0, .int .u64 0] 24)).grown hb5
  have hz5 := (SetAt.zero w3).grown hb5
  have hrl := runs_length a 256 0 (by omega)
  have hrlt := runs_lt a 256 0 (by omega)
  have HLT := Lib.hid hrlt
  have HCOV := Lib.hid (cov_runs a)
  have hw2 := hB2.size
  have hw3 := hc2.lt
  clear hb5 ha2 hc2 hT2 c0 c1 c2 c3 hB1 hB2 hrlt
  generalize hR : runs a 0 = R at *
  clear hR
  generalize hB6 : w3.heap.size = B6 at *
  clear hB6
  go_loopw [8] (fun i wr => ∃ k : Nat, k ≤ R.length ∧ i = .int .i64 k ∧ SetAt wr B6 (covR (R.take k)) ∧ SetAt wr w.heap.size a ∧ SetAt wr (w.heap.size + 1) b ∧ wr.ownsRow (B6 + 1) 44 2 (.slice ad R.length cap) R.length (flat R) ∧ Below w.heap.size w wr) (fun i _ => R.length - (intOf i).toNat)
  case atStart => exact ⟨0, by omega, rfl, hz5, ha5, hc5, hrow, hB5⟩
  case round =>
    obtain ⟨k, hk, rfl, hs, ha, hc, hrow, hbw⟩ := hrel
    clear hz5 ha5 hc5 hB5
    by_cases hlt : k < R.length
    · obtain ⟨m, hm⟩ : ∃ m, R.length = m + 1 := ⟨R.length - 1, by omega⟩
      have hrow' := hrow
      rw [hm] at hrow'
      obtain ⟨g, cap', hg, hg1, hg2⟩ := row_some hrow'
      simp only [Value.slice.injEq] at hg
      obtain ⟨rfl, _, rfl⟩ := hg
      clear hrow' hm
      have hp0 : wr.cell? ⟨g, k * 2, none⟩ = some (.int .u8 R[k].1) := by rw [hrow.cellAt _ (by omega)]; exact (flat_at R k hlt).1
      have hp1 : wr.cell? ⟨g, k * 2 + 1, none⟩ = some (.int .u8 R[k].2) := by rw [hrow.cellAt _ (by omega)]; exact (flat_at R k hlt).2
      obtain ⟨l1, l2⟩ := HLT.out R[k] (List.getElem_mem _)
      have HT : Hid (covR (R.take (k + 1)) = covR (R.take k) ||| ofP (rangeP R[k].1 R[k].2)) := by rw [Hid, List.take_succ_eq_append_getElem hlt, covR_snoc]
      generalize covR (R.take k) = u at *
      generalize R[k].1 = lo at *
      generalize R[k].2 = hi at *
      obtain ⟨c0, c1, c2, c3⟩ := hs.cells
      have hsl := hs.lt
      go_wp2
      go_region_with (first
        | (go_at_call 20; refine (range_any lo hi l1 l2 _).mono ?_; rintro e w6 ⟨rfl, hb6⟩; have hs6 := (show SetAt wr.drew _ _ from hs).grown hb6; obtain ⟨e0, e1, e2, e3⟩ := hs6.cells)
        | (go_at_call 24; refine (union_pair u (ofP (rangeP lo hi)) _ _ (by simp)).mono ?_; rintro e w7 ⟨rfl, hb7⟩; have hs7 := hs6.grown hb7; obtain ⟨e0, e1, e2, e3⟩ := hs7.cells; obtain ⟨g0, g1, g2, g3⟩ := hs7.free))
      all_goals
        have hbt : Below wr.heap.size wr w7 := ((Below.refl wr.heap.size wr).drew.trans hb6).trans (hb7.mono hb6.size)
        have hr7 := ownsRow_setCell_below (ownsRow_setCell_below (ownsRow_setCell_below (ownsRow_setCell_below (row_below hrow hbt) (a := ⟨B6, 0, none⟩) (Nat.lt_succ_self _) (.int .u64 (wd (u ||| ofP (rangeP lo hi)) 0))) (a := ⟨B6, 1, none⟩) (Nat.lt_succ_self _) (.int .u64 (wd (u ||| ofP (rangeP lo hi)) 1))) (a := ⟨B6, 2, none⟩) (Nat.lt_succ_self _) (.int .u64 (wd (u ||| ofP (rangeP lo hi)) 2))) (a := ⟨B6, 3, none⟩) (Nat.lt_succ_self _) (.int .u64 (wd (u ||| ofP (rangeP lo hi)) 3))
        go_wp2
        go_roundw
        case rel => exact ⟨k + 1, by omega, num_succ k, by rw [HT.out]; exact hs7.store _, (ha.grown hbt).other4 (by omega) _ _ _ _, (hc.grown hbt).other4 (by omega) _ _ _ _, hr7, below_set4 (hbw.trans (hbt.mono hbw.size)) (by omega) _ _ _ _⟩
        case measure => simp [intOf]; omega
    · obtain rfl : k = R.length := by omega
      rw [List.take_length, HCOV.out] at hs
      have hT6 := hT.below hbw
      clear hlt hk hrow HLT HCOV hrl
      have hal := ha.lt
      have hcl := hc.lt
      have hsl := hs.lt
      obtain ⟨c0, c1, c2, c3⟩ := ha.cells
      obtain ⟨d0, d1, d2, d3⟩ := hc.cells
      go_wp2_with (go_at_call 29; refine (cut_any _ _ _ (hT6.alloc _) (sl_two _ a b)).mono ?_; rintro e w8 ⟨r, rfl, hrow, hb8⟩; obtain ⟨ad2, cap2, rfl⟩ := row_form hrow)
      have hsz8 := hb8.size
      rw [World.size_alloc] at hrow hsz8
      have hB8 : Below w.heap.size w w8 := (hbw.alloc hbw.size _).trans (hb8.mono (hbw.alloc hbw.size _).size)
      have ha8 := (ha.alloc (.cells #[.int .u64 (wd a 0), .int .u64 (wd a 1), .int .u64 (wd a 2), .int .u64 (wd a 3), .int .u64 (wd b 0), .int .u64 (wd b 1), .int .u64 (wd b 2), .int .u64 (wd b 3)] 24)).grown hb8
      have hs8 := (hs.alloc (.cells #[.int .u64 (wd a 0), .int .u64 (wd a 1), .int .u64 (wd a 2), .int .u64 (wd a 3), .int .u64 (wd b 0), .int .u64 (wd b 1), .int .u64 (wd b 2), .int .u64 (wd b 3)] 24)).grown hb8
      have HNE : Hid ((Value.slice ad2 (cutL [a, b]).length cap2).ownBlock ≠ some w8.heap.size) := fun e => by have := (hrow.lt _ e).2; omega
      have h4 := four a b
      have HS : Hid (sumC [a, b] (reps [a, b] 256) 256 = 256) := sumC_all [a, b] 256 (by omega)
      have HU : Hid (unionIn a (cutL [a, b]) = a) := unionIn_cut [a, b] a (by simp)
      have HLEN : Hid ((cutL [a, b]).length = (reps [a, b] 256).length) := by unfold cutL; rw [Hid, List.length_map]
      have HAT : Hid (∀ k (h : k < (cutL [a, b]).length) (h' : k < (reps [a, b] 256).length), (cutL [a, b])[k] = cls [a, b] ((reps [a, b] 256)[k])) := fun k h h' => by simp [cutL]
      clear hb8 c0 c1 c2 c3 d0 d1 d2 d3 hs ha hc hbw hT6
      generalize hQ : cutL [a, b] = Q at *
      clear hQ
      generalize hrp : reps [a, b] 256 = rs at *
      clear hrp
      generalize hB7 : wr.heap.size = B7 at *
      clear hB7
      go_loopw [10, 12] (fun n i wx => ∃ k : Nat, k ≤ Q.length ∧ i = .int .i64 k ∧ n = .int .i64 (sumC [a, b] (rs.take k) 256) ∧ SetAt wx w8.heap.size (unionIn a (Q.take k)) ∧ SetAt wx w.heap.size a ∧ SetAt wx B6 a ∧ wx.ownsRow (B7 + 1) 24 4 (.slice ad2 Q.length cap2) Q.length (flatS Q) ∧ Below w.heap.size w wx) (fun _ i _ => Q.length - (intOf i).toNat)
      case atStart => exact ⟨0, by omega, rfl, rfl, SetAt.zero _, ha8.alloc _, hs8.alloc _, hrow.alloc _, hB8.alloc hB8.size _⟩
      case round =>
        obtain ⟨k, hk, rfl, rfl, hu, ha, hs, hrow, hbw⟩ := hrel
        clear ha8 hs8 hB8
        by_cases hlt : k < Q.length
        · obtain ⟨m, hm⟩ : ∃ m, Q.length = m + 1 := ⟨Q.length - 1, by omega⟩
          have hrow' := hrow
          rw [hm] at hrow'
          obtain ⟨g, cap', hg, hg1, hg2⟩ := row_some hrow'
          simp only [Value.slice.injEq] at hg
          obtain ⟨rfl, _, rfl⟩ := hg
          clear hrow' hm
          have hkr : k < rs.length := by rw [← HLEN.out]; exact hlt
          have HX := Lib.hid (HAT.out k hlt hkr)
          have HN : Hid (sumC [a, b] (rs.take (k + 1)) 256 = sumC [a, b] (rs.take k) 256 + cnt Q[k] 256) := by rw [Hid, List.take_succ_eq_append_getElem hkr, sumC_snoc, HX.out]
          have hn1 : sumC [a, b] (rs.take k) 256 ≤ 256 := by
            have := sumC_le [a, b] (rs.take k) (rs.drop k) 256
            rw [List.take_append_drop, HS.out] at this
            exact this
          have hn2 := cnt_le Q[k] 256
          have p0 : wr.cell? ⟨g, k * 4, none⟩ = some (.int .u64 (wd Q[k] 0)) := by rw [hrow.cellAt _ (by omega)]; exact flatS_at Q k hlt 0 (by omega)
          have p1 : wr.cell? ⟨g, k * 4 + 1, none⟩ = some (.int .u64 (wd Q[k] 1)) := by rw [hrow.cellAt _ (by omega)]; exact flatS_at Q k hlt 1 (by omega)
          have p2 : wr.cell? ⟨g, k * 4 + 1 + 1, none⟩ = some (.int .u64 (wd Q[k] 2)) := by rw [hrow.cellAt _ (by omega)]; exact flatS_at Q k hlt 2 (by omega)
          have p3 : wr.cell? ⟨g, k * 4 + 1 + 1 + 1, none⟩ = some (.int .u64 (wd Q[k] 3)) := by rw [hrow.cellAt _ (by omega)]; exact flatS_at Q k hlt 3 (by omega)
          have HTK : Hid (Q.take (k + 1) = Q.take k ++ [Q[k]]) := List.take_succ_eq_append_getElem hlt
          generalize hx : Q[k] = x at *
          clear hx
          generalize hsn : sumC [a, b] (rs.take k) 256 = n0 at *
          clear hsn
          by_cases hsub : x &&& a = x
          · have q1 : ∀ w, (Op.equalIn 10000 24 (.agg #[.int .u64 (wd (x &&& a) 0), .int .u64 (wd (x &&& a) 1), .int .u64 (wd (x &&& a) 2), .int .u64 (wd (x &&& a) 3)]) (.agg #[.int .u64 (wd (x) 0), .int .u64 (wd (x) 1), .int .u64 (wd (x) 2), .int .u64 (wd (x) 3)])).run Tryd.prog w = .ok true w := fun w => by rw [hsub, eq_set_same]
            have HUN : Hid (unionIn a (Q.take (k + 1)) = unionIn a (Q.take k) ||| x) := by rw [Hid, HTK.out, unionIn_yes _ _ _ hsub]
            clear hsub
            generalize unionIn a (Q.take k) = u at *
            go_wp2_with (go_at_call 13; refine (count_any x _).mono ?_; rintro e w9 ⟨rfl, hb9⟩)
            have ha9 := ha.grown hb9
            have hal9 := ha9.lt
            have hgl9 := Nat.lt_of_lt_of_le hg2 hb9.size
            have p9 (o : Nat) := hb9.cell (p := ⟨g, o, none⟩) hg2
            have P0 := (p9 (k * 4)).trans p0
            have P1 := (p9 (k * 4 + 1)).trans p1
            have P2 := (p9 (k * 4 + 1 + 1)).trans p2
            have P3 := (p9 (k * 4 + 1 + 1 + 1)).trans p3
            clear p9 p0 p1 p2 p3
            obtain ⟨c0, c1, c2, c3⟩ := ha9.cells
            go_region_held3 (fun W => W.cell? ⟨w.heap.size, 0, none⟩ = some (.int .u64 (wd a 0)) ∧ W.cell? ⟨w.heap.size, 1, none⟩ = some (.int .u64 (wd a 1)) ∧ W.cell? ⟨w.heap.size, 2, none⟩ = some (.int .u64 (wd a 2)) ∧ W.cell? ⟨w.heap.size, 3, none⟩ = some (.int .u64 (wd a 3)) ∧ W.cell? ⟨g, k * 4, none⟩ = some (.int .u64 (wd x 0)) ∧ W.cell? ⟨g, k * 4 + 1, none⟩ = some (.int .u64 (wd x 1)) ∧ W.cell? ⟨g, k * 4 + 1 + 1, none⟩ = some (.int .u64 (wd x 2)) ∧ W.cell? ⟨g, k * 4 + 1 + 1 + 1, none⟩ = some (.int .u64 (wd x 3)) ∧ Below w9.heap.size w9 W)
              (first | exact v_keep hal9 hgl9 (by assumption) (by assumption) | exact v_keep hal9 hgl9 (by assumption) ((Below.refl _ _).alloc (Nat.le_refl _) _) | exact ⟨c0, c1, c2, c3, P0, P1, P2, P3, (Below.refl _ _).drew⟩)
              (first
                | (go_at_call 26; first | ((with_reducible refine (inter_here x a _ _ rfl).mono ?_); rintro e w10 ⟨rfl, hb10⟩) | ((with_reducible refine (inter_hereD x a _ _ rfl).mono ?_); rintro e w10 ⟨rfl, hb10⟩)))
            have hS := v_below (w5 := w9) (by assumption)
            have hb10' : Below wr.heap.size wr w10 := hb9.trans (hS.mono hb9.size)
            have hu10 := hu.grown hb10'
            have ha10 := ha.grown hb10'
            have hs10 := hs.grown hb10'
            have hrow10 := row_below hrow hb10'
            have hbw10 := hbw.trans (hb10'.mono hbw.size)
            have hul := hu10.lt
            obtain ⟨e0, e1, e2, e3⟩ := hu10.cells
            have p10 (o : Nat) := hS.cell (p := ⟨g, o, none⟩) hgl9
            have R0 := (p10 (k * 4)).trans P0
            have R1 := (p10 (k * 4 + 1)).trans P1
            have R2 := (p10 (k * 4 + 1 + 1)).trans P2
            have R3 := (p10 (k * 4 + 1 + 1 + 1)).trans P3
            clear p10 P0 P1 P2 P3 c0 c1 c2 c3
            go_wp2
            go_still_tail 5, (by kernel_rfl)
            change wpList _ _ _ _ _ w10.drew
            obtain ⟨w11, hw11⟩ : ∃ w11, w11 = w10.drew := ⟨_, rfl⟩
            have hu11 : SetAt w11 w8.heap.size u := by rw [hw11]; exact hu10
            have ha11 : SetAt w11 w.heap.size a := by rw [hw11]; exact ha10
            have hs11 : SetAt w11 B6 a := by rw [hw11]; exact hs10
            have hrow11 : w11.ownsRow (B7 + 1) 24 4 (.slice (some ⟨g, 0, none⟩) Q.length cap2) Q.length (flatS Q) := by rw [hw11]; exact hrow10
            have hbw11 : Below w.heap.size w w11 := by rw [hw11]; exact hbw10.drew
            rw [← hw11]
            clear hw11 hu10 ha10 hs10 hrow10 hbw10 e0 e1 e2 e3 R0 R1 R2 R3
            go_wp2_with (go_at_call 24; refine (union_pair u x _ _ rfl).mono ?_; rintro e w12 ⟨rfl, hb12⟩; have hu12 := hu11.grown hb12; obtain ⟨e0, e1, e2, e3⟩ := hu12.cells; obtain ⟨f0, f1, f2, f3⟩ := hu12.free)
            have hr12 := ownsRow_setCell_other (ownsRow_setCell_other (ownsRow_setCell_other (ownsRow_setCell_other (row_below hrow11 hb12) (a := ⟨w8.heap.size, 0, none⟩) HNE.out (.int .u64 (wd (u ||| x) 0))) (a := ⟨w8.heap.size, 1, none⟩) HNE.out (.int .u64 (wd (u ||| x) 1))) (a := ⟨w8.heap.size, 2, none⟩) HNE.out (.int .u64 (wd (u ||| x) 2))) (a := ⟨w8.heap.size, 3, none⟩) HNE.out (.int .u64 (wd (u ||| x) 3))
            go_roundw
            case rel => exact ⟨k + 1, by omega, num_succ k, by rw [HN.out]; simp, by rw [HUN.out]; exact hu12.store _, (ha11.grown hb12).other4 (by omega) _ _ _ _, (hs11.grown hb12).other4 (by omega) _ _ _ _, hr12, below_set4 (hbw11.trans (hb12.mono hbw11.size)) (by omega) _ _ _ _⟩
            case measure => simp [intOf]; omega
          · have q1 : ∀ w, (Op.equalIn 10000 24 (.agg #[.int .u64 (wd (x &&& a) 0), .int .u64 (wd (x &&& a) 1), .int .u64 (wd (x &&& a) 2), .int .u64 (wd (x &&& a) 3)]) (.agg #[.int .u64 (wd (x) 0), .int .u64 (wd (x) 1), .int .u64 (wd (x) 2), .int .u64 (wd (x) 3)])).run Tryd.prog w = .ok false w := fun w => by rw [eq_set, decide_eq_false hsub]
            have HUN : Hid (unionIn a (Q.take (k + 1)) = unionIn a (Q.take k)) := by rw [Hid, HTK.out, unionIn_no _ _ _ hsub]
            clear hsub
            generalize unionIn a (Q.take k) = u at *
            go_wp2_with (go_at_call 13; refine (count_any x _).mono ?_; rintro e w9 ⟨rfl, hb9⟩)
            have ha9 := ha.grown hb9
            have hal9 := ha9.lt
            have hgl9 := Nat.lt_of_lt_of_le hg2 hb9.size
            have p9 (o : Nat) := hb9.cell (p := ⟨g, o, none⟩) hg2
            have P0 := (p9 (k * 4)).trans p0
            have P1 := (p9 (k * 4 + 1)).trans p1
            have P2 := (p9 (k * 4 + 1 + 1)).trans p2
            have P3 := (p9 (k * 4 + 1 + 1 + 1)).trans p3
            clear p9 p0 p1 p2 p3
            obtain ⟨c0, c1, c2, c3⟩ := ha9.cells
            go_region_held3 (fun W => W.cell? ⟨w.heap.size, 0, none⟩ = some (.int .u64 (wd a 0)) ∧ W.cell? ⟨w.heap.size, 1, none⟩ = some (.int .u64 (wd a 1)) ∧ W.cell? ⟨w.heap.size, 2, none⟩ = some (.int .u64 (wd a 2)) ∧ W.cell? ⟨w.heap.size, 3, none⟩ = some (.int .u64 (wd a 3)) ∧ W.cell? ⟨g, k * 4, none⟩ = some (.int .u64 (wd x 0)) ∧ W.cell? ⟨g, k * 4 + 1, none⟩ = some (.int .u64 (wd x 1)) ∧ W.cell? ⟨g, k * 4 + 1 + 1, none⟩ = some (.int .u64 (wd x 2)) ∧ W.cell? ⟨g, k * 4 + 1 + 1 + 1, none⟩ = some (.int .u64 (wd x 3)) ∧ Below w9.heap.size w9 W)
              (first | exact v_keep hal9 hgl9 (by assumption) (by assumption) | exact v_keep hal9 hgl9 (by assumption) ((Below.refl _ _).alloc (Nat.le_refl _) _) | exact ⟨c0, c1, c2, c3, P0, P1, P2, P3, (Below.refl _ _).drew⟩)
              (first
                | (go_at_call 26; first | ((with_reducible refine (inter_here x a _ _ rfl).mono ?_); rintro e w10 ⟨rfl, hb10⟩) | ((with_reducible refine (inter_hereD x a _ _ rfl).mono ?_); rintro e w10 ⟨rfl, hb10⟩)))
            have hS := v_below (w5 := w9) (by assumption)
            have hb10' : Below wr.heap.size wr w10 := hb9.trans (hS.mono hb9.size)
            have hu10 := hu.grown hb10'
            have ha10 := ha.grown hb10'
            have hs10 := hs.grown hb10'
            have hrow10 := row_below hrow hb10'
            have hbw10 := hbw.trans (hb10'.mono hbw.size)
            have hul := hu10.lt
            go_wp2
            go_roundw
            case rel => exact ⟨k + 1, by omega, num_succ k, by rw [HN.out]; simp, by rw [HUN.out]; exact hu10, ha10, hs10, hrow10, hbw10⟩
            case measure => simp [intOf]; omega
        · obtain rfl : k = Q.length := by omega
          rw [List.take_length, HU.out] at hu
          have HN : Hid (sumC [a, b] (rs.take Q.length) 256 = 256) := by rw [Hid, HLEN.out, List.take_length]; exact HS.out
          rw [HN.out]
          clear hlt hk hrow
          obtain ⟨c0, c1, c2, c3⟩ := ha.cells
          obtain ⟨d0, d1, d2, d3⟩ := hs.cells
          obtain ⟨e0, e1, e2, e3⟩ := hu.cells
          go_wp2
          go_ret
          exact ⟨ret_bool (decide_eq_true (by omega)), hbw⟩
end Go.Proofs.YtocllbdfdmpopaaDoor
