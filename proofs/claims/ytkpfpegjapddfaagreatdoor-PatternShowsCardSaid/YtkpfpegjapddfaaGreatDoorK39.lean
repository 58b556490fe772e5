/- Texts that a proof rests on: The contract of the reference's Ranges. | Contract of the reference's rows. -/
import Derived.Test.YtkpfpegjapddfaaGreatDoorK38
import Derived.Deep.QuietTactic
import Derived.BigQuiet
set_option maxRecDepth 20000
namespace Go.Proofs.YtkpfpegjapddfaaGreatDoor
open Go.RowKit

/-- What a byte does to the rows. -/
theorem rTo_no {s : BitVec 256} {k : Nat} (h : s.getLsbD k = false) : rTo s (k + 1) = rTo s k := by rw [rTo, rstep, h]; rfl
theorem rTo_new {s : BitVec 256} {k : Nat} (h : s.getLsbD k = true) (hn : ∀ q ∈ (rTo s k).getLast?, q.2 + 1 ≠ k) : rTo s (k + 1) = rTo s k ++ [(k, k)] := by
  rw [rTo, rstep, h, if_pos rfl]
  split
  · rename_i lo hi e
    rw [if_neg (hn (lo, hi) (by rw [e]; rfl))]
  · rfl
theorem rTo_ext {s : BitVec 256} {k : Nat} {l : List (Nat × Nat)} {lo hi : Nat} (h : s.getLsbD k = true) (hl : rTo s k = l ++ [(lo, hi)]) (he : hi + 1 = k) : rTo s (k + 1) = l ++ [(lo, k)] := by
  rw [rTo, rstep, h, if_pos rfl, hl]
  simp [he]
/-- A pair's second cell is stored anew. -/
theorem flat_set (l : List (Nat × Nat)) (lo hi k : Nat) : (flat (l ++ [(lo, hi)])).set (l.length * 2 + 1) (.int .u8 k) = flat (l ++ [(lo, k)]) := by
  rw [flat_snoc, flat_snoc]
  have := flat_length l
  rw [List.set_append]
  rw [if_neg (by omega), show l.length * 2 + 1 - (flat l).length = 1 from by omega]
  rfl
theorem row_below {w w' : World} {base size n : Nat} {e : TypeId} {v : Value} {xs : List Value} (h : w.ownsRow base e size v n xs) (hb : Below w.heap.size w w') : w'.ownsRow base e size v n xs :=
  h.kept (grownN_of_below hb) (by cases v.ownBlock <;> simp)
theorem row_form {w : World} {base size n : Nat} {e : TypeId} {v : Value} {xs : List Value} (h : w.ownsRow base e size v n xs) : ∃ a cap, v = .slice a n cap := by
  rcases h.2 with ⟨rfl, rfl⟩ | ⟨g, cap, cur, rfl, _⟩
  · exact ⟨_, _, rfl⟩
  · exact ⟨_, _, rfl⟩
theorem row_some {w : World} {base size n : Nat} {e : TypeId} {v : Value} {xs : List Value} (h : w.ownsRow base e size v (n + 1) xs) : ∃ g cap, v = .slice (some ⟨g, 0, none⟩) (n + 1) cap ∧ base ≤ g ∧ g < w.heap.size := by
  rcases h.2 with ⟨_, h0⟩ | ⟨g, cap, cur, rfl, hg, hgb, _⟩
  · omega
  · exact ⟨g, cap, rfl, hg, (Array.getElem?_eq_some_iff.1 hgb).1⟩
theorem setAt_grown {w w' : World} {b : Nat} {s : BitVec 256} {row : Option Nat} (hs : SetAt w b s) (hg : w.grownBy w' row) (hne : row ≠ some b) : SetAt w' b s := by
  unfold SetAt at *
  rw [hg.block b (Array.getElem?_eq_some_iff.1 hs).1 (fun e => hne e.symm)]; exact hs
theorem own_ne {w : World} {base size n b : Nat} {e : TypeId} {v : Value} {xs : List Value} (h : w.ownsRow base e size v n xs) (hb : b < base) : v.ownBlock ≠ some b := fun e => by
  have := (h.lt b e).1; omega
set_option maxHeartbeats 2000000 in
theorem rranges_any (s : BitVec 256) (w : World) :
    Calls Tryz.prog 64 #[(.agg #[.int .u64 (wd (s) 0), .int .u64 (wd (s) 1), .int .u64 (wd (s) 2), .int .u64 (wd (s) 3)])] w fun e w' => ∃ v, e = .returned v ∧ w'.ownsRow (w.heap.size + 1) 91 2 v (rTo s 256).length (flat (rTo s 256)) ∧ Below w.heap.size w w' := by
  obtain ⟨i0, hi, hz0, hz1, hz2⟩ := info_parts infoPair
  go_enter Tryz.func64, Tryz.ntmps64
  go_wp2
  go_loopw [3, 4] (fun v i wr => ∃ k : Nat, k ≤ 256 ∧ i = .int .i64 k ∧ wr.ownsRow (w.heap.size + 1) 91 2 v (rTo s k).length (flat (rTo s k)) ∧ SetAt wr w.heap.size s ∧ Below w.heap.size w wr) (fun _ i _ => 256 - (intOf i).toNat)
  case atStart => exact ⟨0, by omega, rfl, World.ownsRow_nil _ _ _ _, (box_start w s).1, (box_start w s).2⟩
  case round =>
    obtain ⟨k, hk, rfl, hrow, hs, hbw⟩ := hrel
    have hlen := rTo_length s k
    by_cases hlt : k < 256
    · obtain ⟨c0, c1, c2, c3⟩ := hs.cells
      have hls := hs.lt
      cases hbit : s.getLsbD k
      · have HB := Lib.hid hbit
        clear hbit
        go_wp2_with (go_at_call 60; refine (rhas_any s k hlt _).mono ?_; rw [HB.out]; rintro e w' ⟨rfl, hb1⟩)
        go_roundw
        case rel => exact ⟨k + 1, by omega, num_succ k, by rw [rTo_no HB.out]; exact row_below hrow hb1, hs.grown hb1, hbw.trans (hb1.mono hbw.size)⟩
        case measure => simp [intOf]; omega
      · have HB := Lib.hid hbit
        clear hbit
        rcases List.eq_nil_or_concat (rTo s k) with hnil | ⟨l, ⟨lo, hi'⟩, hl⟩
        · have HN : Hid (rTo s (k + 1) = [(k, k)]) := by rw [Hid, rTo_new HB.out (by rw [hnil]; simp), hnil]; rfl
          rw [hnil] at hrow
          clear hnil hlen
          obtain ⟨a, cap, rfl⟩ := row_form hrow
          simp only [List.length_nil] at hrow ⊢
          go_wp2_with (first | (go_at_call 60; refine (rhas_any s k hlt _).mono ?_; rw [HB.out]; rintro e w' ⟨rfl, hb1⟩; have hl1 := (hs.grown hb1).lt) | (at_builtin; refine wpList_append_own _ rfl _ _ 89 rfl (w.heap.size + 1) 91 i0 (.agg #[.int .u8 0, .int .u8 0]) 2 2 Tryz.underlying89 hi hz0 hz1 hz2 rfl (by decide) _ _ _ rfl ((row_below hrow hb1).alloc _) ⟨w'.heap.size, 0, none⟩ 1 1 [.int .u8 k, .int .u8 k] rfl rfl (cell_two_new _ _ _ _) (by simp [Value.oneCell']) (by decide) (by decide) (by simp; omega) ?_; intro v' w1 hown' hgrow _))
          go_roundw
          case rel =>
            refine ⟨k + 1, by omega, num_succ k, by rw [HN.out]; simpa [flat] using hown', setAt_grown ((hs.grown hb1).alloc _) hgrow (own_ne hrow (by omega)), ?_⟩
            exact (((hbw.trans (hb1.mono hbw.size)).alloc (by omega) _).grown hgrow (by simp; omega) (fun j ej => by have := (hrow.lt j ej).1; omega))
          case measure => simp [intOf]; omega
        · rw [List.concat_eq_append] at hl
          have hlast := rTo_lt s k (lo, hi') (by rw [hl]; simp)
          have hll : l.length < 256 := by rw [hl] at hlen; simp at hlen; omega
          have hlr : (rTo s k).length = l.length + 1 := by rw [hl]; simp
          have HC : Hid ((flat (rTo s k))[l.length * 2 + 1]? = some (.int .u8 hi')) := by
            have := (flat_at2 (rTo s k) l.length (by omega)).2
            rw [Hid, this]
            congr 3
            simp [hl]
          rw [hlr] at hrow
          clear hlen hlr
          obtain ⟨g, cap, rfl, hg1, hg2⟩ := row_some hrow
          by_cases hq : hi' + 1 = k
          · have HN : Hid (rTo s (k + 1) = l ++ [(lo, k)]) := rTo_ext HB.out hl hq
            have HF : Hid (flat (rTo s k) = flat (l ++ [(lo, hi')])) := by rw [hl]; rfl
            have hb : ((hi' : Int) == (k : Int) - 1) = true := by rw [beq_iff_eq]; omega
            clear hl hq
            go_wp2_with (go_at_call 60; refine (rhas_any s k hlt _).mono ?_; rw [HB.out]; rintro e w' ⟨rfl, hb1⟩; have hl1 := (hs.grown hb1).lt; have hcl := ((row_below hrow hb1).cellAt (l.length * 2 + 1) (by omega)).trans HC.out; have hfz := (row_below hrow hb1).frozenAt (l.length * 2 + 1))
            go_roundw
            case rel =>
              obtain ⟨r1, r2⟩ := (row_below hrow hb1).stored (l.length * 2 + 1) (.int .u8 k)
              refine ⟨k + 1, by omega, num_succ k, ?_, (hs.grown hb1).other (a := ⟨g, _, none⟩) (by show w.heap.size ≠ g; omega) _, (hbw.trans (hb1.mono hbw.size)).setCell (p := ⟨g, _, none⟩) (by show w.heap.size ≤ g; omega) _⟩
              rw [HF.out, flat_set] at r1
              rw [HN.out]
              simpa using r1
            case measure => simp [intOf]; omega
          · have HN : Hid (rTo s (k + 1) = rTo s k ++ [(k, k)]) := rTo_new HB.out (by rw [hl]; simp; omega)
            have hb : ((hi' : Int) == (k : Int) - 1) = false := by rw [beq_eq_false_iff_ne]; omega
            have HL : Hid ((rTo s k).length = l.length + 1) := by rw [hl]; simp [Hid]
            clear hl hq
            go_wp2_with (first | (go_at_call 60; refine (rhas_any s k hlt _).mono ?_; rw [HB.out]; rintro e w' ⟨rfl, hb1⟩; have hl1 := (hs.grown hb1).lt; have hcl := ((row_below hrow hb1).cellAt (l.length * 2 + 1) (by omega)).trans HC.out) | (at_builtin; refine wpList_append_own _ rfl _ _ 89 rfl (w.heap.size + 1) 91 i0 (.agg #[.int .u8 0, .int .u8 0]) 2 2 Tryz.underlying89 hi hz0 hz1 hz2 rfl (by decide) _ _ _ rfl ((row_below hrow hb1).alloc _) ⟨w'.heap.size, 0, none⟩ 1 1 [.int .u8 k, .int .u8 k] rfl rfl (cell_two_new _ _ _ _) (by simp [Value.oneCell']) (by unfold maxLen; omega) (by omega) (by simp; omega) ?_; intro v' w1 hown' hgrow _))
            go_roundw
            case rel =>
              refine ⟨k + 1, by omega, num_succ k, by rw [HN.out, flat_snoc, List.length_append, HL.out]; exact hown', setAt_grown ((hs.grown hb1).alloc _) hgrow (own_ne hrow (by omega)), ?_⟩
              exact (((hbw.trans (hb1.mono hbw.size)).alloc (by omega) _).grown hgrow (by simp; omega) (fun j ej => by have := (hrow.lt j ej).1; omega))
            case measure => simp [intOf]; omega
    · obtain rfl : k = 256 := by omega
      go_wp2
      go_ret
      exact ⟨_, rfl, hrow, hbw⟩
end Go.Proofs.YtkpfpegjapddfaaGreatDoor
set_option maxRecDepth 20000
namespace Go.Proofs.YtkpfpegjapddfaaGreatDoor
open Go.RowKit

theorem within_nat (c : Nat) (hc : c < 256) (w : World) :
    Calls Tryz.prog 65 #[.int .u8 (c : Int)] w fun e w' => (∃ z : ByteArray, e = .returned (.string z) ∧ z.data.toList = byteOut (shownC c) (UInt8.ofNat c) ∧ z.size ≤ 4) ∧ Below w.heap.size w w' := by
  have e1 : (UInt8.ofNat c).toNat = c := by simp; omega
  have := within_any (UInt8.ofNat c) w
  rw [e1] at this
  refine this.mono ?_
  rintro e w' ⟨⟨z, rfl, hz⟩, hb⟩
  refine ⟨⟨z, rfl, hz, ?_⟩, hb⟩
  have h := byteOut_len (shownC c) (UInt8.ofNat c)
  rw [← hz, str_len] at h
  exact h
theorem RowOf.below {w w' : World} {b : Nat} {ad : Option Addr} {l : List (Nat × Nat)} (h : RowOf w b ad l) (hb : Below w.heap.size w w') : RowOf w' b ad l := fun k hl => by
  obtain ⟨g, cs, fz, h1, h2, h3, h4⟩ := h k hl
  exact ⟨g, cs, fz, h1, h2, (hb.block g (lt_of_block h3)).trans h3, h4⟩
theorem PairsKeep {w w' : World} {b : Nat} {ad : Option Addr} {l : List (Nat × Nat)} (h : RowOf w b ad l) (hb : Below w.heap.size w w') (k : Nat) (hk : k < l.length) {x y : Nat} (hx : l[k].1 = x) (hy : l[k].2 = y) : ∃ g, ad = some ⟨g, 0, none⟩ ∧ w'.cell? ⟨g, k * 2, none⟩ = some (.int .u8 x) ∧ w'.cell? ⟨g, k * 2 + 1, none⟩ = some (.int .u8 y) := by
  subst hx hy
  obtain ⟨g, cs, fz, h1, _, h3, h4, h5⟩ := h.below hb k hk
  obtain ⟨p0, p1⟩ := pair_cells h3 h4 h5
  exact ⟨g, h1, p0, p1⟩
set_option maxHeartbeats 4000000 in
theorem rows_any (s : BitVec 256) (w : World) :
    Calls Tryz.prog 39 #[(.agg #[.int .u64 (wd (s) 0), .int .u64 (wd (s) 1), .int .u64 (wd (s) 2), .int .u64 (wd (s) 3)])] w fun e w' => (∃ z : ByteArray, e = .returned (.string z) ∧ z.data.toList = rowsOut (runs s 0) ∧ z.size ≤ 2304) ∧ Below w.heap.size w w' := by
  have hx0 := SetAt.new w s
  have b0 := below_one w (.cells #[.int .u64 (wd s 0), .int .u64 (wd s 1), .int .u64 (wd s 2), .int .u64 (wd s 3)] 24)
  have hlr := runs_length s 256 0 (by omega)
  have hle := runs_le s 256 0 (by omega)
  go_enter Tryz.func39, Tryz.ntmps39
  go_wp2_with (first
    | (go_at_call 64; (with_reducible refine (rranges_any s _).mono ?_); rintro e w1 ⟨v, rfl, hrow, hb1⟩; rw [rTo_all] at hrow; obtain ⟨ad, cap, rfl, hro⟩ := row_of_own (b := w.heap.size) (by simp; omega) hrow)
    | fail)
  have hb01 := below_step b0 hb1
  generalize hL : runs s 0 = L at *
  clear hrow b0 hx0
  go_loopw [3, 5] (fun o i wr => ∃ (k : Nat) (z : ByteArray), k ≤ L.length ∧ i = .int .i64 k ∧ o = .string z ∧ Hid (z.data.toList = rowsOut (L.take k)) ∧ Below w1.heap.size w1 wr) (fun _ i _ => L.length - (intOf i).toNat)
  case atStart => exact ⟨0, ⟨#[]⟩, by omega, rfl, rfl, rfl, Below.refl _ _⟩
  case round =>
    obtain ⟨k, z, hk, rfl, rfl, HZ, hbw⟩ := hrel
    have hzs : z.size ≤ 2304 := by
      rw [← str_len, HZ.out]
      have := rowsOut_len (L.take k)
      rw [List.length_take] at this
      omega
    by_cases hlt : k < L.length
    · obtain ⟨g, rfl, p0, p1⟩ := PairsKeep hro hbw k hlt rfl rfl
      have hq := hle L[k] (List.getElem_mem hlt)
      have HR := Lib.hid (rowsOut_take L k hlt)
      obtain ⟨x, hx⟩ : ∃ z, L[k].1 = z := ⟨_, rfl⟩
      obtain ⟨y, hy⟩ : ∃ z, L[k].2 = z := ⟨_, rfl⟩
      rw [hx, hy] at HR hq
      rw [hx] at p0
      rw [hy] at p1
      have HX := Lib.hid hx
      have HY := Lib.hid hy
      clear hx hy
      obtain ⟨q0, q1⟩ := hq
      have e1 : (UInt8.ofNat x).toNat = x := by simp; omega
      have e2 : (UInt8.ofNat y).toNat = y := by simp; omega
      have x255 : x < 256 := by omega
      have hm : ((y : Int) - (x : Int)) % 256 = ((y - x : Nat) : Int) := by omega
      have HE1 := Lib.hid e1
      have HE2 := Lib.hid e2
      clear e1 e2
      by_cases c1 : x + 1 < y
      · have c2 : x < y := by omega
        have c3 : 1 < y - x := by omega
        go_wp2_with (first | (go_at_call 65; refine (within_nat x x255 _).mono ?_; rintro e w3 ⟨⟨z1, rfl, hz1, hs1⟩, hb3⟩))
        have hb13 := hbw.trans (hb3.mono hbw.size)
        obtain ⟨g1, eg, r0, r1⟩ := PairsKeep hro hb13 k hlt HX.out HY.out
        cases eg
        go_quiet (fail)
        obtain ⟨w4, hw4⟩ : ∃ u, u = w3.drewN nq := ⟨_, rfl⟩
        have hb14 : Below w1.heap.size w1 w4 := by rw [hw4]; exact hb13.trans ((below_drewN w3 nq).mono hb13.size)
        rw [← hw4]
        clear hw4 r0 r1 p0 p1
        obtain ⟨g1, eg, r0, r1⟩ := PairsKeep hro hb14 k hlt HX.out HY.out
        cases eg
        go_wp2
        go_quiet (fail)
        obtain ⟨w6, hw6⟩ : ∃ u, u = w4.drewN nq := ⟨_, rfl⟩
        have hb16 : Below w1.heap.size w1 w6 := by rw [hw6]; exact hb14.trans ((below_drewN w4 nq).mono hb14.size)
        rw [← hw6]
        clear hw6 r0 r1
        obtain ⟨g1, eg, r0, r1⟩ := PairsKeep hro hb16 k hlt HX.out HY.out
        cases eg
        go_wp2_with (first | (go_at_call 65; refine (within_nat y (by omega) _).mono ?_; rintro e w5 ⟨⟨z2, rfl, hz2, hs2⟩, hb5⟩))
        have hb15 := hb16.trans (hb5.mono hb16.size)
        go_roundw
        case rel =>
          refine ⟨k + 1, z ++ z1 ++ ⟨#[45]⟩ ++ z2, by omega, num_succ k, rfl, ?_, hb15⟩
          show _ = _
          rw [HR.out, str_cat, str_cat, str_cat, HZ.out, hz1, hz2]
          unfold rangeOut
          rw [HE1.out, HE2.out]
          rw [if_pos c1, if_pos c2]
          simp
        case measure => simp [intOf]; omega
      · have c3 : ¬ 1 < y - x := by omega
        by_cases c2 : x < y
        · have HC := Lib.hid c1
          clear c1
          go_wp2_with (first | (go_at_call 65; refine (within_nat x x255 _).mono ?_; rintro e w3 ⟨⟨z1, rfl, hz1, hs1⟩, hb3⟩))
          have hb13 := hbw.trans (hb3.mono hbw.size)
          obtain ⟨g1, eg, r0, r1⟩ := PairsKeep hro hb13 k hlt HX.out HY.out
          cases eg
          go_quiet (fail)
          obtain ⟨w4, hw4⟩ : ∃ u, u = w3.drewN nq := ⟨_, rfl⟩
          have hb14 : Below w1.heap.size w1 w4 := by rw [hw4]; exact hb13.trans ((below_drewN w3 nq).mono hb13.size)
          rw [← hw4]
          clear hw4 r0 r1 p0 p1
          obtain ⟨g1, eg, r0, r1⟩ := PairsKeep hro hb14 k hlt HX.out HY.out
          cases eg
          go_wp2
          go_quiet (fail)
          obtain ⟨w6, hw6⟩ : ∃ u, u = w4.drewN nq := ⟨_, rfl⟩
          have hb16 : Below w1.heap.size w1 w6 := by rw [hw6]; exact hb14.trans ((below_drewN w4 nq).mono hb14.size)
          rw [← hw6]
          clear hw6 r0 r1
          obtain ⟨g1, eg, r0, r1⟩ := PairsKeep hro hb16 k hlt HX.out HY.out
          cases eg
          go_wp2_with (first | (go_at_call 65; refine (within_nat y (by omega) _).mono ?_; rintro e w5 ⟨⟨z2, rfl, hz2, hs2⟩, hb5⟩))
          have hb15 := hb16.trans (hb5.mono hb16.size)
          go_roundw
          case rel =>
            refine ⟨k + 1, z ++ z1 ++ z2, by omega, num_succ k, rfl, ?_, hb15⟩
            show _ = _
            rw [HR.out, str_cat, str_cat, HZ.out, hz1, hz2]
            unfold rangeOut
            rw [HE1.out, HE2.out]
            rw [if_neg HC.out, if_pos c2]
            simp
          case measure => simp [intOf]; omega
        · have HC := Lib.hid c1
          clear c1
          go_wp2_with (first | (go_at_call 65; refine (within_nat x x255 _).mono ?_; rintro e w3 ⟨⟨z1, rfl, hz1, hs1⟩, hb3⟩))
          have hb13 := hbw.trans (hb3.mono hbw.size)
          obtain ⟨g1, eg, r0, r1⟩ := PairsKeep hro hb13 k hlt HX.out HY.out
          cases eg
          go_quiet (fail)
          obtain ⟨w4, hw4⟩ : ∃ u, u = w3.drewN nq := ⟨_, rfl⟩
          have hb14 : Below w1.heap.size w1 w4 := by rw [hw4]; exact hb13.trans ((below_drewN w3 nq).mono hb13.size)
          rw [← hw4]
          clear hw4 r0 r1 p0 p1
          obtain ⟨g1, eg, r0, r1⟩ := PairsKeep hro hb14 k hlt HX.out HY.out
          cases eg
          go_wp2
          go_quiet (fail)
          obtain ⟨w6, hw6⟩ : ∃ u, u = w4.drewN nq := ⟨_, rfl⟩
          have hb16 : Below w1.heap.size w1 w6 := by rw [hw6]; exact hb14.trans ((below_drewN w4 nq).mono hb14.size)
          rw [← hw6]
          clear hw6 r0 r1
          obtain ⟨g1, eg, r0, r1⟩ := PairsKeep hro hb16 k hlt HX.out HY.out
          cases eg
          go_wp2
          go_roundw
          case rel =>
            refine ⟨k + 1, z ++ z1, by omega, num_succ k, rfl, ?_, hb16⟩
            show _ = _
            rw [HR.out, str_cat, HZ.out, hz1]
            unfold rangeOut
            rw [HE1.out, HE2.out]
            rw [if_neg HC.out, if_neg c2]
            simp
          case measure => simp [intOf]; omega
    · obtain rfl : k = L.length := by omega
      have hz := HZ.out
      rw [List.take_length] at hz
      go_wp2
      go_ret
      exact ⟨⟨z, rfl, by rw [hL]; exact hz, hzs⟩, hb01.trans (hbw.mono hb01.size)⟩
end Go.Proofs.YtkpfpegjapddfaaGreatDoor
