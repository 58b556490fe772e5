/- Contracts of the reference's Union, Inter, alike, Same. -/
import Derived.Test.YtocllbdfdmpopaaDoorQ
import Derived.Test.YtocllbdfdmpopaaDoorW9
import Derived.Test.YtocllbdfdmpopaaDoorE
import Derived.Deep.RegionHeld3
set_option maxRecDepth 100000
namespace Go.Proofs.YtocllbdfdmpopaaDoor
open Go.RowKit

set_option maxHeartbeats 2000000 in
theorem runion_any (v : Value) (l : List (BitVec 256)) (w : World) (hv : Sl w v l) :
    Calls Tryd.prog 25 #[v] w fun e w' => e = .returned (.agg #[.int .u64 (wd (unionL l) 0), .int .u64 (wd (unionL l) 1), .int .u64 (wd (unionL l) 2), .int .u64 (wd (unionL l) 3)]) ∧ Below w.heap.size w w' := by
  obtain ⟨hlen, hv⟩ := hv
  unfold maxLen at hlen
  rcases hv with ⟨rfl, a, cap, rfl⟩ | ⟨b, off, cap, rfl, hl⟩
  · go_enter Tryd.func25, Tryd.ntmps25
    go_wp2
    refine wp_loop_rounds 1 ?_
    rw [rounds_succ]; go_wp2
    refine bodyPost_ret (v := (.agg #[.int .u64 (wd (unionL []) 0), .int .u64 (wd (unionL []) 1), .int .u64 (wd (unionL []) 2), .int .u64 (wd (unionL []) 3)])) (by simp [results, Tryd.results25, go_sem, union_nil_wd]) rfl ⟨rfl, ?_⟩
    exact ((Below.refl _ _).alloc (Nat.le_refl _) _).alloc (by simp) _
  · go_enter Tryd.func25, Tryd.ntmps25
    go_wp2
    go_loopw [4, 5] (fun i _ wr => ∃ k : Nat, k ≤ l.length ∧ i = .int .i64 k ∧ SetAt wr w.heap.size 0 ∧ SetAt wr (w.heap.size + 1) (unionL (l.take k)) ∧ Below w.heap.size w wr) (fun i _ _ => l.length - (intOf i).toNat)
    case atStart =>
      obtain ⟨h1, h2, h3⟩ := @atStart_two w
      exact ⟨0, by omega, rfl, h2, h1, h3⟩
    case round =>
      obtain ⟨k, hk, rfl, hz, hs, hbw⟩ := hrel
      by_cases hlt : k < l.length
      · have HN : Hid (unionL (l.take (k + 1)) = unionL (l.take k) ||| l[k]) := by rw [Hid, List.take_succ_eq_append_getElem hlt, union_snoc]
        have hs' : SetAt wr (w.heap.size + 1) (orTo (unionL (l.take k)) l[k] 0) := by rw [orTo_zero]; exact hs
        generalize unionL (l.take k) = u at *
        clear hs
        obtain ⟨wo, hwo⟩ : ∃ wo : World, wo = wr := ⟨_, rfl⟩
        rw [← hwo] at hz hs' hbw ⊢
        clear hwo
        go_wp2
        go_loopw [5] (fun i wr => ∃ m : Nat, m ≤ 256 ∧ i = .int .i64 m ∧ SetAt wr w.heap.size 0 ∧ SetAt wr (w.heap.size + 1) (orTo u l[k] m) ∧ Below w.heap.size w wr) (fun i _ => 256 - (intOf i).toNat)
        case atStart => exact ⟨0, by omega, rfl, hz, hs', hbw⟩
        case round =>
          obtain ⟨m, hm, rfl, hz, hs, hbw⟩ := hrel
          clear hs'
          by_cases hlt2 : m < 256
          · obtain ⟨e0, e1, e2, e3⟩ := (hl.lower hbw hl.1).cells k hlt
            generalize hx : l[k] = x at *
            have HX := Lib.hid hx
            clear hx
            cases hbit : x.getLsbD m
            · have HO := Lib.hid (orTo_no u x m hbit)
              have HB := Lib.hid hbit
              clear hbit
              go_wp2_with (go_at_call 12; refine (rhas_any x m hlt2 _).mono ?_; rw [HB.out]; rintro e w2 ⟨rfl, hb2⟩)
              go_roundw
              case rel => exact ⟨m + 1, by omega, num_succ m, hz.grown hb2, by rw [HO.out]; exact hs.grown hb2, hbw.trans (hb2.mono hbw.size)⟩
              case measure => simp [intOf]; omega
            · have HO := Lib.hid (orTo_yes u x m hlt2 hbit)
              have HB := Lib.hid hbit
              clear hbit
              generalize orTo u x m = y at *
              go_wp2_with (first
                | (go_at_call 12; refine (rhas_any x m hlt2 _).mono ?_; rw [HB.out]; rintro e w2 ⟨rfl, hb2⟩; obtain ⟨c0, c1, c2, c3⟩ := (hs.grown hb2).cells)
                | (go_at_call 35; refine (rwith_any y m hlt2 _).mono ?_; rintro e w3 ⟨rfl, hb3⟩; have hs3 := (hs.grown hb2).grown hb3; obtain ⟨c0, c1, c2, c3⟩ := hs3.cells; obtain ⟨f0, f1, f2, f3⟩ := hs3.free))
              go_roundw
              case rel =>
                have hb23 := hb2.trans (hb3.mono hb2.size)
                exact ⟨m + 1, by omega, num_succ m, (hz.grown hb23).other4 (by omega) _ _ _ _, by rw [HO.out]; exact hs3.store _, below_set4 (hbw.trans (hb23.mono hbw.size)) (by omega) _ _ _ _⟩
              case measure => simp [intOf]; omega
          · obtain rfl : m = 256 := by omega
            rw [orTo_end] at hs
            go_wp2
            go_roundw
            case rel => exact ⟨k + 1, by omega, num_succ k, hz, by rw [HN.out]; exact hs, hbw⟩
            case measure => simp [intOf]; omega
      · obtain rfl : k = l.length := by omega
        rw [List.take_length] at hs
        obtain ⟨c0, c1, c2, c3⟩ := hs.cells
        obtain ⟨d0, d1, d2, d3⟩ := hz.cells
        obtain ⟨g0, g1, g2, g3⟩ := hz.free
        go_wp2
        refine bodyPost_ret (v := (.agg #[.int .u64 (wd (unionL l) 0), .int .u64 (wd (unionL l) 1), .int .u64 (wd (unionL l) 2), .int .u64 (wd (unionL l) 3)])) (by simp [results, Tryd.results25, go_sem, *]) rfl ⟨rfl, ?_⟩
        exact below_set4 hbw (by omega) _ _ _ _
end Go.Proofs.YtocllbdfdmpopaaDoor
