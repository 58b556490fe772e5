/- The walk of RegexChecks. -/
import Derived.Test.YtnjcefjcpmjdiaaK9
import Derived.Test.YtnjcefjcpmjdiaaK0
import Derived.Test.YtnjcefjcpmjdiaaF2
import Derived.Deep.CutRange
import Derived.Deep.RegionHeld3
set_option maxRecDepth 100000
namespace Go.Proofs.Ytnjcefjcpmjdiaa
open Go.RowKit

set_option maxHeartbeats 4000000 in
theorem checks_any (s : ByteArray) (oa : Option Addr) (n cap : Nat) (zs : List Int) (d : Int) (w : World)
    (hops : 0 < n → ∃ bo off, oa = some ⟨bo, off, none⟩ ∧ ∀ j, j < n → w.cell? ⟨bo, off + j, none⟩ = some (.int .i64 (zs.getD j 0))) :
    Calls Try.prog 5 #[.string s, .slice oa n cap, .int .i64 d] w fun e w' => e = .returned (.bool true) ∧ Below w.heap.size w w' := by
  by_cases ha : 40 < s.size
  · go_enter Try.func5, Try.ntmps5
    go_wp2_with (go_at_call 8; (with_reducible refine (awake_any _).mono ?_); rintro e w1 ⟨rfl, hb1⟩)
    go_ret
    exact ⟨rfl, hb1⟩
  by_cases hn : 30 < n
  · go_enter Try.func5, Try.ntmps5
    go_wp2_with (go_at_call 8; (with_reducible refine (awake_any _).mono ?_); rintro e w1 ⟨rfl, hb1⟩)
    go_ret
    exact ⟨rfl, hb1⟩
  have hal : s.size ≤ 60 := by omega
  go_enter Try.func5, Try.ntmps5
  go_wp2_with (first
    | (go_at_call 8; (with_reducible refine (awake_any _).mono ?_); rintro e w1 ⟨rfl, hb1⟩)
    | (go_at_call 9; (with_reducible refine (make_p s _ hal).mono ?_); rintro e w2 ⟨p, a1, c1, rfl, hk2, hsP, hokP, hb2⟩))
  have hb02 := below_step hb1 hb2
  have hH := held_new hk2
  have hb03 := below_step hb02 (below_one w2 (.cells #[.int .i64 p.op, .int .u64 (wd p.set 0), .int .u64 (wd p.set 1), .int .u64 (wd p.set 2), .int .u64 (wd p.set 3), .int .i64 p.lo, .int .i64 p.hi, .slice a1 p.kids.length c1] 28))
  have hlw : w.heap.size ≤ w2.heap.size := hb02.size
  have hcl : ∀ j, j < n → ∃ z : Int, w.cell? ⟨(oa.getD ⟨0, 0, none⟩).block, (oa.getD ⟨0, 0, none⟩).off + j, none⟩ = some (.int .i64 z) := fun j hj => by
    obtain ⟨bo, off, rfl, h⟩ := hops (by omega)
    exact ⟨_, h j hj⟩
  clear hk2 hb1 hb2 hb02 hokP
  generalize w2.alloc (.cells #[.int .i64 p.op, .int .u64 (wd p.set 0), .int .u64 (wd p.set 1), .int .u64 (wd p.set 2), .int .u64 (wd p.set 3), .int .i64 p.lo, .int .i64 p.hi, .slice a1 p.kids.length c1] 28) = w3 at *
  generalize w2.heap.size = b1 at *
  go_loopw [9] (fun i wr => ∃ (k : Nat) (p : Pat) (a : Option Addr) (c : Nat), i = .int .i64 k ∧ k ≤ 30 ∧ Held wr b1 p a c ∧ p.size ≤ 100 + 2 * k ∧ Below w.heap.size w wr) (fun i _ => 33 - (intOf i).toNat)
  case atStart => exact ⟨0, p, a1, c1, rfl, by omega, hH, by omega, hb03⟩
  case round =>
    clear hH hb03 hsP
    obtain ⟨k, q, a, c, rfl, hk, hH, hsz, hbw⟩ := hrel
    have e2 : IntKind.i64.wrap ((k : Int) + 2) = (k : Int) + 2 := by rw [IntKind.wrap_i64]; omega
    by_cases hlt : k + 2 < n
    · obtain ⟨bo, off, rfl, hz⟩ := hops (by omega)
      have hbo : bo < w.heap.size := cell_lt (hz 0 (by omega))
      have hbs := hbw.size
      have o0 := (World.cell?_of_block (hbw.block bo hbo)).trans (hz k (by omega))
      have o1 := (World.cell?_of_block (hbw.block bo hbo)).trans (hz (k + 1) (by omega))
      have o2 := (World.cell?_of_block (hbw.block bo hbo)).trans (hz (k + 2) (by omega))
      clear hz hops hcl
      generalize zs.getD k 0 = z0 at *
      generalize zs.getD (k + 1) 0 = z1 at *
      generalize zs.getD (k + 2) 0 = z2 at *
      go_upto_region 10 with fail
      refine Code.wp_mono then_false (regC_any _ wr bo off n cap b1 k q a c z0 z1 z2 (by omega) hlt (by omega) hH.1 o0 o1 o2 _ _ _ _ _ _ _ _ _ _ _ _ _ _ _ _ _ _ _ _ _ _ _ _ _ _ _ _ _ _ _ _ _ _ _ _ _ _ _ _ _ _ _ _ _ _ _ _ _ _ _ _ _ _ _ _ _ _ _ _ _ _ _ _ _ _ _ _ _ _ _ _ _ _ (Lib.hid ?_))
      intro v31 v32 v33 v34 v35 v36 v37 v38 v39 v40 v41 v42 v43 v44 v45 v46 v47 wx hwrap
      obtain ⟨g, hgl, hg, hHx, hgr⟩ := held_wrap hH hwrap
      have hlb := hH.1.lt
      have x0 := (World.cell?_of_block (hgr.block bo (by omega) (by simp; omega))).trans o0
      clear hwrap o1 o2
      dsimp only
      have i0 : (0 : Int) ≤ (k : Int) := by omega
      have j0 : (k : Int) < (n : Int) := by omega
      have e3 : IntKind.i64.wrap ((k : Int) + 3) = (k : Int) + 3 := by rw [IntKind.wrap_i64]; omega
      go_upto_region 12 with fail
      · refine Code.wp_mono then_any (regD_any _ wx b1 g (Pat.mk z0 (0#256) z1 z2 [q]) q a c (by omega) hHx.1 hg _ _ _ _ _ _ _ _ _ _ _ _ _ _ _ _ _ _ _ _ _ _ _ _ _ _ _ _ _ _ _ _ _ _ _ _ _ _ _ _ _ _ _ _ _ _ _ _ _ _ _ _ _ _ _ _ _ _ _ _ _ _ _ _ _ _ _ _ _ _ _ _ _ _ _ _ (Lib.hid ?_))
        intro v54 v55 v56 v57 v58 v59 wy htw
        obtain ⟨a', c', hHy, hgy⟩ := held_twice hgl hgr hH.2 htw
        clear htw
        dsimp only [Exit.then, Exit.inBlock]
        go_wp2_with fail
        exact ⟨⟨k + 3, _, _, _, by simp, by omega, hHy, by simp only [emptyP, Pat.size, Pat.sizes]; omega, below_wrap hbw hgy hlw⟩, by simp [intOf]; omega⟩
      · exact ⟨⟨k + 3, _, _, _, by simp, by omega, hHx, by simp only [Pat.size, Pat.sizes]; omega, below_wrap hbw hgr hlw⟩, by simp [intOf]; omega⟩
    · go_upto_region 14 with fail
      go_loopw [10] (fun i wr => ∃ (m : Nat) (p : Pat) (a : Option Addr) (c : Nat), i = .int .i64 m ∧ m ≤ 70 ∧ Held wr b1 p a c ∧ p.size ≤ 160 + 2 * m ∧ Below w.heap.size w wr) (fun i _ => 70 - (intOf i).toNat)
      case atStart => exact ⟨0, q, a, c, rfl, by omega, hH, by omega, hbw⟩
      case round =>
        clear hH hsz hbw
        obtain ⟨m, q, a, c, rfl, hm, hH, hsz, hbw⟩ := hrel
        by_cases hgo : m < 70 ∧ (m : Int) < d
        · obtain ⟨hm7, hmd⟩ := hgo
          go_upto_region 16 with fail
          refine Code.wp_mono then_any (regE_any _ _ b1 q a c hH.1 _ _ _ _ _ _ _ _ _ _ _ _ _ _ _ _ _ _ _ _ _ _ _ _ _ _ _ _ _ _ _ _ _ _ _ _ _ _ _ _ _ _ _ _ _ _ _ _ _ _ _ _ _ _ _ _ _ _ _ _ _ _ _ _ _ _ _ _ _ _ _ _ _ _ _ _ (Lib.hid ?_))
          intro v69 v70 v71 wx hwrap
          obtain ⟨g, _, _, hHx, hgr⟩ := held_wrap hH hwrap
          have hbx := below_wrap hbw hgr hlw
          clear hwrap
          dsimp only [Exit.then, Exit.inBlock]
          go_wp2_with fail
          go_roundw
          case rel => exact ⟨m + 1, _, _, _, num_succ m, by omega, hHx, by simp only [Pat.size, Pat.sizes]; omega, hbx⟩
          case measure => simp [intOf]; omega
        · have hq9 : q.size < 9999 := by omega
          have hkk := hH.kids
          have hx := hH.1
          have hlx := hx.lt
          obtain ⟨p0, p1, p2, p3, p4, p5, p6, p7⟩ := hx.cells
          rcases (show ¬ m < 70 ∨ (m < 70 ∧ ¬ (m : Int) < d) by omega) with h7 | ⟨h7, hmd⟩
          all_goals go_upto_region 17 with fail
          all_goals
            go_region_held3 (fun W => W.cell? ⟨b1, 0, none⟩ = some (.int .i64 q.op) ∧ W.cell? ⟨b1, 1, none⟩ = some (.int .u64 (wd q.set 0)) ∧ W.cell? ⟨b1, 2, none⟩ = some (.int .u64 (wd q.set 1)) ∧ W.cell? ⟨b1, 3, none⟩ = some (.int .u64 (wd q.set 2)) ∧ W.cell? ⟨b1, 4, none⟩ = some (.int .u64 (wd q.set 3)) ∧ W.cell? ⟨b1, 5, none⟩ = some (.int .i64 q.lo) ∧ W.cell? ⟨b1, 6, none⟩ = some (.int .i64 q.hi) ∧ W.cell? ⟨b1, 7, none⟩ = some (.slice a q.kids.length c) ∧ Below wr.heap.size wr W)
              (first | (with_reducible exact s8_keep hlx (by assumption) (by assumption)) | (with_reducible exact s8_start hx (Below.refl _ _).drew) | (with_reducible exact s8_start hx (Below.refl _ _)))
              (first
                | (go_at_call 31; (with_reducible refine (checkC _ _ _ hq9 (hkk.below (s8_below (by assumption)))).mono ?_); rintro e w6 ⟨rfl, hb6⟩)
                | (go_at_call 32; (with_reducible refine (rcheckC _ _ _ hq9 (hkk.below (s8_below (by assumption)))).mono ?_); rintro e w6 ⟨rfl, hb6⟩))
            all_goals
              have hfin := below_step hbw (s8_below (by assumption))
              go_wp2
              go_ret
              exact ⟨rfl, hfin⟩
end Go.Proofs.Ytnjcefjcpmjdiaa
