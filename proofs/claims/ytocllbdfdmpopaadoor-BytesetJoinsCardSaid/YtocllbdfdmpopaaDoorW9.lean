/- The contract of the reference's Ranges. -/
import Derived.Test.YtocllbdfdmpopaaDoorW8
set_option maxRecDepth 20000
namespace Go.Proofs.YtocllbdfdmpopaaDoor
open Go.RowKit

/-- What a byte does to the rows. -/
theorem rTo_no {s : BitVec 256} {k : Nat} (h : s.getLsbD k = false) : rTo s (k + 1) = rTo s k := by rw [rTo, rstep, h]; rfl
theorem rTo_new {s : BitVec 256} {k : Nat} (h : s.getLsbD k = true) (hn : ∀ q ∈ (rTo s k).getLast?, q.2 + 1 ≠ k) : rTo s (k + 1) = rTo s k ++ [(k, k)] := by
  rw [rTo, rstep, h, if_pos rfl]
  split
  · rename_i lo hi e
    rw [if_neg (hn (lo, hi) (by rw [e]; rfl))]
  · rfl
theorem rTo_ext {s : BitVec 256} {k : Nat} {l : List (Nat × Nat)} {lo hi : Nat} (h : s.getLsbD k = true) (hl : rTo s k = l ++ [(lo, hi)]) (he : hi + 1 = k) : rTo s (k + 1) = l ++ [(lo, k)] := by
  rw [rTo, rstep, h, if_pos rfl, hl]
  simp [he]
/-- A pair's second cell is stored anew. -/
theorem flat_set (l : List (Nat × Nat)) (lo hi k : Nat) : (flat (l ++ [(lo, hi)])).set (l.length * 2 + 1) (.int .u8 k) = flat (l ++ [(lo, k)]) := by
  rw [flat_snoc, flat_snoc]
  have := flat_length l
  rw [List.set_append]
  rw [if_neg (by omega), show l.length * 2 + 1 - (flat l).length = 1 from by omega]
  rfl
theorem row_below {w w' : World} {base size n : Nat} {e : TypeId} {v : Value} {xs : List Value} (h : w.ownsRow base e size v n xs) (hb : Below w.heap.size w w') : w'.ownsRow base e size v n xs :=
  h.kept (grown_of_below hb) (by cases v.ownBlock <;> simp)
theorem row_form {w : World} {base size n : Nat} {e : TypeId} {v : Value} {xs : List Value} (h : w.ownsRow base e size v n xs) : ∃ a cap, v = .slice a n cap := by
  rcases h.2 with ⟨rfl, rfl⟩ | ⟨g, cap, cur, rfl, _⟩
  · exact ⟨_, _, rfl⟩
  · exact ⟨_, _, rfl⟩
theorem row_some {w : World} {base size n : Nat} {e : TypeId} {v : Value} {xs : List Value} (h : w.ownsRow base e size v (n + 1) xs) : ∃ g cap, v = .slice (some ⟨g, 0, none⟩) (n + 1) cap ∧ base ≤ g ∧ g < w.heap.size := by
  rcases h.2 with ⟨_, h0⟩ | ⟨g, cap, cur, rfl, hg, hgb, _⟩
  · omega
  · exact ⟨g, cap, rfl, hg, (Array.getElem?_eq_some_iff.1 hgb).1⟩
theorem setAt_grown {w w' : World} {b : Nat} {s : BitVec 256} {row : Option Nat} (hs : SetAt w b s) (hg : w.grownBy w' row) (hne : row ≠ some b) : SetAt w' b s := by
  unfold SetAt at *
  rw [hg.block b (Array.getElem?_eq_some_iff.1 hs).1 (fun e => hne e.symm)]; exact hs
theorem own_ne {w : World} {base size n b : Nat} {e : TypeId} {v : Value} {xs : List Value} (h : w.ownsRow base e size v n xs) (hb : b < base) : v.ownBlock ≠ some b := fun e => by
  have := (h.lt b e).1; omega
set_option maxHeartbeats 2000000 in
theorem rranges_any (s : BitVec 256) (w : World) :
    Calls Tryd.prog 17 #[(.agg #[.int .u64 (wd (s) 0), .int .u64 (wd (s) 1), .int .u64 (wd (s) 2), .int .u64 (wd (s) 3)])] w fun e w' => ∃ v, e = .returned v ∧ w'.ownsRow (w.heap.size + 1) 44 2 v (rTo s 256).length (flat (rTo s 256)) ∧ Below w.heap.size w w' := by
  obtain ⟨i0, hi, hz0, hz1, hz2⟩ := info_parts infoPair
  go_enter Tryd.func17, Tryd.ntmps17
  go_wp2
  go_loopw [3, 4] (fun v i wr => ∃ k : Nat, k ≤ 256 ∧ i = .int .i64 k ∧ wr.ownsRow (w.heap.size + 1) 44 2 v (rTo s k).length (flat (rTo s k)) ∧ SetAt wr w.heap.size s ∧ Below w.heap.size w wr) (fun _ i _ => 256 - (intOf i).toNat)
  case atStart => exact ⟨0, by omega, rfl, World.ownsRow_nil _ _ _ _, (box_start w s).1, (box_start w s).2⟩
  case round =>
    obtain ⟨k, hk, rfl, hrow, hs, hbw⟩ := hrel
    have hlen := rTo_length s k
    by_cases hlt : k < 256
    · obtain ⟨c0, c1, c2, c3⟩ := hs.cells
      have hls := hs.lt
      cases hbit : s.getLsbD k
      · have HB := Lib.hid hbit
        clear hbit
        go_wp2_with (go_at_call 12; refine (rhas_any s k hlt _).mono ?_; rw [HB.out]; rintro e w' ⟨rfl, hb1⟩)
        go_roundw
        case rel => exact ⟨k + 1, by omega, num_succ k, by rw [rTo_no HB.out]; exact row_below hrow hb1, hs.grown hb1, hbw.trans (hb1.mono hbw.size)⟩
        case measure => simp [intOf]; omega
      · have HB := Lib.hid hbit
        clear hbit
        rcases List.eq_nil_or_concat (rTo s k) with hnil | ⟨l, ⟨lo, hi'⟩, hl⟩
        · have HN : Hid (rTo s (k + 1) = [(k, k)]) := by rw [Hid, rTo_new HB.out (by rw [hnil]; simp), hnil]; rfl
          rw [hnil] at hrow
          clear hnil hlen
          obtain ⟨a, cap, rfl⟩ := row_form hrow
          simp only [List.length_nil] at hrow ⊢
          go_wp2_with (first | (go_at_call 12; refine (rhas_any s k hlt _).mono ?_; rw [HB.out]; rintro e w' ⟨rfl, hb1⟩; have hl1 := (hs.grown hb1).lt) | (at_builtin; refine wpList_append_own _ rfl _ _ 31 rfl (w.heap.size + 1) 44 i0 (.agg #[.int .u8 0, .int .u8 0]) 2 2 Tryd.underlying31 hi hz0 hz1 hz2 rfl (by decide) _ _ _ rfl ((row_below hrow hb1).alloc _) ⟨w'.heap.size, 0, none⟩ 1 1 [.int .u8 k, .int .u8 k] rfl rfl (cell_two_new _ _ _ _) (by simp [Value.oneCell']) (by decide) (by decide) (by simp; omega) ?_; intro v' w1 hown' hgrow _))
          go_roundw
          case rel =>
            refine ⟨k + 1, by omega, num_succ k, by rw [HN.out]; simpa [flat] using hown', setAt_grown ((hs.grown hb1).alloc _) hgrow (own_ne hrow (by omega)), ?_⟩
            exact (((hbw.trans (hb1.mono hbw.size)).alloc (by omega) _).grown hgrow (by simp; omega) (fun j ej => by have := (hrow.lt j ej).1; omega))
          case measure => simp [intOf]; omega
        · rw [List.concat_eq_append] at hl
          have hlast := rTo_lt s k (lo, hi') (by rw [hl]; simp)
          have hll : l.length < 256 := by rw [hl] at hlen; simp at hlen; omega
          have hlr : (rTo s k).length = l.length + 1 := by rw [hl]; simp
          have HC : Hid ((flat (rTo s k))[l.length * 2 + 1]? = some (.int .u8 hi')) := by
            have := (flat_at (rTo s k) l.length (by omega)).2
            rw [Hid, this]
            congr 3
            simp [hl]
          rw [hlr] at hrow
          clear hlen hlr
          obtain ⟨g, cap, rfl, hg1, hg2⟩ := row_some hrow
          by_cases hq : hi' + 1 = k
          · have HN : Hid (rTo s (k + 1) = l ++ [(lo, k)]) := rTo_ext HB.out hl hq
            have HF : Hid (flat (rTo s k) = flat (l ++ [(lo, hi')])) := by rw [hl]; rfl
            have hb : ((hi' : Int) == (k : Int) - 1) = true := by rw [beq_iff_eq]; omega
            clear hl hq
            go_wp2_with (go_at_call 12; refine (rhas_any s k hlt _).mono ?_; rw [HB.out]; rintro e w' ⟨rfl, hb1⟩; have hl1 := (hs.grown hb1).lt; have hcl := ((row_below hrow hb1).cellAt (l.length * 2 + 1) (by omega)).trans HC.out; have hfz := (row_below hrow hb1).frozenAt (l.length * 2 + 1))
            go_roundw
            case rel =>
              obtain ⟨r1, r2⟩ := (row_below hrow hb1).stored (l.length * 2 + 1) (.int .u8 k)
              refine ⟨k + 1, by omega, num_succ k, ?_, (hs.grown hb1).other (a := ⟨g, _, none⟩) (by show w.heap.size ≠ g; omega) _, (hbw.trans (hb1.mono hbw.size)).setCell (p := ⟨g, _, none⟩) (by show w.heap.size ≤ g; omega) _⟩
              rw [HF.out, flat_set] at r1
              rw [HN.out]
              simpa using r1
            case measure => simp [intOf]; omega
          · have HN : Hid (rTo s (k + 1) = rTo s k ++ [(k, k)]) := rTo_new HB.out (by rw [hl]; simp; omega)
            have hb : ((hi' : Int) == (k : Int) - 1) = false := by rw [beq_eq_false_iff_ne]; omega
            have HL : Hid ((rTo s k).length = l.length + 1) := by rw [hl]; simp [Hid]
            clear hl hq
            go_wp2_with (first | (go_at_call 12; refine (rhas_any s k hlt _).mono ?_; rw [HB.out]; rintro e w' ⟨rfl, hb1⟩; have hl1 := (hs.grown hb1).lt; have hcl := ((row_below hrow hb1).cellAt (l.length * 2 + 1) (by omega)).trans HC.out) | (at_builtin; refine wpList_append_own _ rfl _ _ 31 rfl (w.heap.size + 1) 44 i0 (.agg #[.int .u8 0, .int .u8 0]) 2 2 Tryd.underlying31 hi hz0 hz1 hz2 rfl (by decide) _ _ _ rfl ((row_below hrow hb1).alloc _) ⟨w'.heap.size, 0, none⟩ 1 1 [.int .u8 k, .int .u8 k] rfl rfl (cell_two_new _ _ _ _) (by simp [Value.oneCell']) (by unfold maxLen; omega) (by omega) (by simp; omega) ?_; intro v' w1 hown' hgrow _))
            go_roundw
            case rel =>
              refine ⟨k + 1, by omega, num_succ k, by rw [HN.out, flat_snoc, List.length_append, HL.out]; exact hown', setAt_grown ((hs.grown hb1).alloc _) hgrow (own_ne hrow (by omega)), ?_⟩
              exact (((hbw.trans (hb1.mono hbw.size)).alloc (by omega) _).grown hgrow (by simp; omega) (fun j ej => by have := (hrow.lt j ej).1; omega))
            case measure => simp [intOf]; omega
    · obtain rfl : k = 256 := by omega
      go_wp2
      go_ret
      exact ⟨_, rfl, hrow, hbw⟩
end Go.Proofs.YtocllbdfdmpopaaDoor
