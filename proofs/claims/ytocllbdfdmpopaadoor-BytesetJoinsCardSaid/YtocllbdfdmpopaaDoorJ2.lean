/- Contracts of the reference's Inter, alike, Same. -/
import Derived.Test.YtocllbdfdmpopaaDoorJ1
import Derived.Test.YtocllbdfdmpopaaDoorL1
set_option maxRecDepth 100000
namespace Go.Proofs.YtocllbdfdmpopaaDoor
open Go.RowKit

theorem all_take (l : List (BitVec 256)) (k m : Nat) (h : m < l.length) : (l.take (m + 1)).all (fun s => s.getLsbD k) = ((l.take m).all (fun s => s.getLsbD k) && l[m].getLsbD k) := by
  rw [List.take_succ_eq_append_getElem h, List.all_append]; simp
set_option maxHeartbeats 2000000 in
theorem rinter_any (v : Value) (l : List (BitVec 256)) (w : World) (hv : Sl w v l) :
    Calls Tryd.prog 27 #[v] w fun e w' => e = .returned (.agg #[.int .u64 (wd (interL l) 0), .int .u64 (wd (interL l) 1), .int .u64 (wd (interL l) 2), .int .u64 (wd (interL l) 3)]) ∧ Below w.heap.size w w' := by
  have hv0 := hv
  obtain ⟨hlen, _⟩ := hv
  unfold maxLen at hlen
  obtain ⟨ad, cap, rfl, hat⟩ : ∃ ad cap, v = .slice ad l.length cap ∧ ∀ k, k < l.length → ∃ b off, ad = some ⟨b, off, none⟩ ∧ SetsAt w b off l := by
    rcases hv0.2 with ⟨rfl, a, c, rfl⟩ | ⟨b, off, c, rfl, hl⟩
    · exact ⟨a, c, rfl, fun k hk => by simp at hk⟩
    · exact ⟨_, c, rfl, fun k _ => ⟨b, off, rfl, hl⟩⟩
  have HAT := Lib.hid hat
  clear hat hv0
  go_enter Tryd.func27, Tryd.ntmps27
  go_wp2
  go_loopw [4, 5, 6] (fun i _ _ wr => ∃ k : Nat, k ≤ 256 ∧ i = .int .i64 k ∧ SetAt wr w.heap.size 0 ∧ SetAt wr (w.heap.size + 1) (upTo (fun x => l.all (fun s => s.getLsbD x)) k) ∧ Below w.heap.size w wr) (fun i _ _ _ => 256 - (intOf i).toNat)
  case atStart =>
    obtain ⟨h1, h2, h3⟩ := @atStart_two w
    exact ⟨0, by omega, rfl, h2, h1, h3⟩
  case round =>
    obtain ⟨k, hk, rfl, hz, hs, hbw⟩ := hrel
    by_cases hlt : k < 256
    · have HY : Hid (l.all (fun s => s.getLsbD k) = true → upTo (fun x => l.all (fun s => s.getLsbD x)) (k + 1) = put (upTo (fun x => l.all (fun s => s.getLsbD x)) k) k) := fun h => by rw [upTo, h]; rfl
      have HN : Hid (l.all (fun s => s.getLsbD k) = false → upTo (fun x => l.all (fun s => s.getLsbD x)) (k + 1) = upTo (fun x => l.all (fun s => s.getLsbD x)) k) := fun h => by rw [upTo, h]; rfl
      generalize upTo (fun x => l.all (fun s => s.getLsbD x)) k = u at *
      obtain ⟨wo, hwo⟩ : ∃ wo : World, wo = wr := ⟨_, rfl⟩
      rw [← hwo] at hz hs hbw ⊢
      clear hwo
      have hd : decide ((k : Int) < 256) = true := decide_eq_true (by omega)
      go_wp2
      go_loopw [5, 6] (fun al i wr => ∃ m : Nat, m ≤ l.length ∧ i = .int .i64 m ∧ al = .bool ((l.take m).all (fun s => s.getLsbD k)) ∧ SetAt wr w.heap.size 0 ∧ SetAt wr (w.heap.size + 1) u ∧ Below w.heap.size w wr) (fun _ i _ => l.length - (intOf i).toNat)
      case atStart => exact ⟨0, by omega, rfl, rfl, hz, hs, hbw⟩
      case round =>
        obtain ⟨m, hm, rfl, rfl, hz, hs, hbw⟩ := hrel
        by_cases hlt2 : m < l.length
        · obtain ⟨b, off, rfl, hl⟩ := HAT.out m hlt2
          obtain ⟨e0, e1, e2, e3⟩ := (hl.lower hbw hl.1).cells m hlt2
          have HT := Lib.hid (all_take l k m hlt2)
          generalize hx : l[m] = x at *
          have HX := Lib.hid hx
          clear hx
          cases hall : (l.take m).all (fun s => s.getLsbD k)
          · have HA := Lib.hid hall
            clear hall
            go_wp2
            go_roundw
            case rel => exact ⟨m + 1, by omega, num_succ m, by rw [HT.out, HA.out]; rfl, hz, hs, hbw⟩
            case measure => simp [intOf]; omega
          · have HA := Lib.hid hall
            clear hall
            cases hbit : x.getLsbD k
            all_goals
              have HB := Lib.hid hbit
              clear hbit
              go_wp2_with (go_at_call 12; refine (rhas_any x k hlt _).mono ?_; rw [HB.out]; rintro e w2 ⟨rfl, hb2⟩)
              go_roundw
              case rel =>
                exact ⟨m + 1, by omega, num_succ m, by rw [HT.out, HA.out, HB.out]; rfl, hz.grown hb2, hs.grown hb2, hbw.trans (hb2.mono hbw.size)⟩
              case measure => simp [intOf]; omega
        · obtain rfl : m = l.length := by omega
          rw [List.take_length]
          cases hall : l.all (fun s => s.getLsbD k)
          · have HA := Lib.hid (HN.out hall)
            clear hall
            go_wp2
            go_roundw
            case rel => exact ⟨k + 1, by omega, num_succ k, hz, by rw [HA.out]; exact hs, hbw⟩
            case measure => simp [intOf]; omega
          · have HA := Lib.hid (HY.out hall)
            clear hall
            obtain ⟨c0, c1, c2, c3⟩ := hs.cells
            go_wp2_with (go_at_call 35; refine (rwith_any u k hlt _).mono ?_; rintro e w3 ⟨rfl, hb3⟩; have hs3 := hs.grown hb3; obtain ⟨c0, c1, c2, c3⟩ := hs3.cells; obtain ⟨f0, f1, f2, f3⟩ := hs3.free)
            go_roundw
            case rel => exact ⟨k + 1, by omega, num_succ k, (hz.grown hb3).other4 (by omega) _ _ _ _, by rw [HA.out]; exact hs3.store _, below_set4 (hbw.trans (hb3.mono hbw.size)) (by omega) _ _ _ _⟩
            case measure => simp [intOf]; omega
    · obtain rfl : k = 256 := by omega
      rw [inter_end] at hs
      obtain ⟨c0, c1, c2, c3⟩ := hs.cells
      obtain ⟨d0, d1, d2, d3⟩ := hz.cells
      obtain ⟨g0, g1, g2, g3⟩ := hz.free
      go_wp2
      refine bodyPost_ret (v := (.agg #[.int .u64 (wd (interL l) 0), .int .u64 (wd (interL l) 1), .int .u64 (wd (interL l) 2), .int .u64 (wd (interL l) 3)])) (by simp [results, Tryd.results27, go_sem, *]) rfl ⟨rfl, ?_⟩
      exact below_set4 hbw (by omega) _ _ _ _
set_option maxHeartbeats 2000000 in
theorem same_same (v1 v2 : Value) (l : List (BitVec 256)) (w : World) (h1 : Sl w v1 l) (h2 : Sl w v2 l) :
    Calls Tryd.prog 28 #[v1, v2] w fun e w' => e = .returned (.bool true) ∧ Below w.heap.size w w' := by
  obtain ⟨hlen, h1⟩ := h1
  obtain ⟨_, h2⟩ := h2
  unfold maxLen at hlen
  rcases h1 with ⟨rfl, a1, cap1, rfl⟩ | ⟨b1, off1, cap1, rfl, h1⟩
  · obtain ⟨a2, cap2, rfl⟩ : ∃ a2 cap2, v2 = .slice a2 0 cap2 := by
      rcases h2 with ⟨_, a, c, e⟩ | ⟨b, o, c, e, _⟩
      · exact ⟨a, c, e⟩
      · exact ⟨_, c, e⟩
    go_enter Tryd.func28, Tryd.ntmps28
    go_wp2
    refine wp_loop_rounds 1 ?_
    rw [rounds_succ]; go_wp2
    go_ret
    exact ⟨rfl, Below.refl _ _⟩
  · rcases h2 with ⟨rfl, a2, cap2, rfl⟩ | ⟨b2, off2, cap2, rfl, h2⟩
    · go_enter Tryd.func28, Tryd.ntmps28
      go_wp2
      refine wp_loop_rounds 1 ?_
      rw [rounds_succ]; go_wp2
      go_ret
      exact ⟨rfl, Below.refl _ _⟩
    · have hne : ((l.length : Int) != (l.length : Int)) = false := by simp
      go_enter Tryd.func28, Tryd.ntmps28
      go_wp2
      go_loopw [5] (fun i wr => ∃ k : Nat, k ≤ l.length ∧ i = .int .i64 k ∧ Below w.heap.size w wr) (fun i _ => l.length - (intOf i).toNat)
      case atStart => exact ⟨0, by omega, rfl, Below.refl _ _⟩
      case round =>
        obtain ⟨k, hk, rfl, hbw⟩ := hrel
        by_cases hlt : k < l.length
        · obtain ⟨c0, c1, c2, c3⟩ := (h1.lower hbw h1.1).cells k hlt
          obtain ⟨d0, d1, d2, d3⟩ := (h2.lower hbw h2.1).cells k hlt
          have hq := eq_set_same l[k]
          go_wp2
          go_quiet (fail)
          go_wp2
          go_roundw
          case rel => exact ⟨k + 1, by omega, num_succ k, below_drewN hbw _⟩
          case measure => simp [intOf]; omega
        · go_wp2
          go_ret
          exact ⟨rfl, hbw⟩
theorem al_keep {w5 W W' : World} {c o0 o1 o2 o3 : Nat} {y0 y1 y2 y3 : Value} (hcl : c < w5.heap.size)
    (h : W.cell? ⟨c, o0, none⟩ = some y0 ∧ W.cell? ⟨c, o1, none⟩ = some y1 ∧ W.cell? ⟨c, o2, none⟩ = some y2 ∧ W.cell? ⟨c, o3, none⟩ = some y3 ∧ Below w5.heap.size w5 W)
    (hb : Below W.heap.size W W') :
    W'.cell? ⟨c, o0, none⟩ = some y0 ∧ W'.cell? ⟨c, o1, none⟩ = some y1 ∧ W'.cell? ⟨c, o2, none⟩ = some y2 ∧ W'.cell? ⟨c, o3, none⟩ = some y3 ∧ Below w5.heap.size w5 W' := by
  obtain ⟨h4, h5, h6, h7, h8⟩ := h
  have lc : c < W.heap.size := Nat.lt_of_lt_of_le hcl h8.size
  have cc (o : Nat) := hb.cell (p := ⟨c, o, none⟩) lc
  exact ⟨(cc _).trans h4, (cc _).trans h5, (cc _).trans h6, (cc _).trans h7, h8.trans (hb.mono h8.size)⟩
theorem al_below {w5 W : World} {c o0 o1 o2 o3 : Nat} {y0 y1 y2 y3 : Value}
    (h : W.cell? ⟨c, o0, none⟩ = some y0 ∧ W.cell? ⟨c, o1, none⟩ = some y1 ∧ W.cell? ⟨c, o2, none⟩ = some y2 ∧ W.cell? ⟨c, o3, none⟩ = some y3 ∧ Below w5.heap.size w5 W) : Below w5.heap.size w5 W := h.2.2.2.2
theorem alike_take (l : List (BitVec 256)) (x y m : Nat) (h : m < l.length) : alike (l.take (m + 1)) x y = (alike (l.take m) x y && l[m].getLsbD x == l[m].getLsbD y) := by
  unfold alike
  rw [List.take_succ_eq_append_getElem h, List.all_append]; simp
theorem alike_no (l : List (BitVec 256)) (x y m : Nat) (h : m < l.length) (hne : (l[m].getLsbD x == l[m].getLsbD y) = false) : alike l x y = false := by
  unfold alike
  rw [List.all_eq_false]
  exact ⟨l[m], List.getElem_mem h, by simp [hne]⟩
set_option maxHeartbeats 2000000 in
theorem alike_any (v : Value) (l : List (BitVec 256)) (x y : Nat) (hx : x < 256) (hy : y < 256) (w : World) (hv : Sl w v l) :
    Calls Tryd.prog 38 #[v, .int .u8 x, .int .u8 y] w fun e w' => e = .returned (.bool (alike l x y)) ∧ Below w.heap.size w w' := by
  obtain ⟨hlen, hv⟩ := hv
  unfold maxLen at hlen
  rcases hv with ⟨rfl, a, cap, rfl⟩ | ⟨b, off, cap, rfl, hl⟩
  · go_enter Tryd.func38, Tryd.ntmps38
    go_wp2
    refine wp_loop_rounds 1 ?_
    rw [rounds_succ]; go_wp2
    go_ret
    exact ⟨rfl, Below.refl _ _⟩
  · go_enter Tryd.func38, Tryd.ntmps38
    go_wp2
    go_loopw [7] (fun i wr => ∃ k : Nat, k ≤ l.length ∧ i = .int .i64 k ∧ Hid (alike (l.take k) x y = true) ∧ Below w.heap.size w wr) (fun i _ => l.length - (intOf i).toNat)
    case atStart => exact ⟨0, by omega, rfl, rfl, Below.refl _ _⟩
    case round =>
      obtain ⟨k, hk, rfl, HA, hbw⟩ := hrel
      by_cases hlt : k < l.length
      · have hl1 := hl.lower hbw hl.1
        have hbl := hl1.1
        obtain ⟨e0, e1, e2, e3⟩ := hl1.cells k hlt
        clear hl1
        have HT := Lib.hid (alike_take l x y k hlt)
        have HNO : Hid ((l[k].getLsbD x == l[k].getLsbD y) = false → alike l x y = false) := fun h => alike_no l x y k hlt h
        generalize l[k] = s at *
        cases hp : s.getLsbD x
        · cases hq : s.getLsbD y
          · skip
            have HP := Lib.hid hp
            have HQ := Lib.hid hq
            clear hp hq
            go_wp2
            go_region_held3 (fun W => W.cell? ⟨b, off + k * 4, none⟩ = some (.int .u64 (wd s 0)) ∧ W.cell? ⟨b, off + k * 4 + 1, none⟩ = some (.int .u64 (wd s 1)) ∧ W.cell? ⟨b, off + k * 4 + 1 + 1, none⟩ = some (.int .u64 (wd s 2)) ∧ W.cell? ⟨b, off + k * 4 + 1 + 1 + 1, none⟩ = some (.int .u64 (wd s 3)) ∧ Below wr.heap.size wr W)
              (first | exact al_keep hbl (by assumption) (by assumption) | exact ⟨e0, e1, e2, e3, (Below.refl _ _).drew⟩)
              (first
                | (go_at_call 12; first | ((with_reducible refine (rhas_any s x hx _).mono ?_); rw [HP.out]; rintro e w2 ⟨rfl, hb2⟩) | ((with_reducible refine (rhas_any s y hy _).mono ?_); rw [HQ.out]; rintro e w3 ⟨rfl, hb3⟩)))
            have hS := al_below (w5 := wr) (by assumption)
            have hbw' := hbw.trans (hS.mono hbw.size)
            clear hS
            go_wp2
            go_roundw
            case rel => exact ⟨k + 1, by omega, num_succ k, by rw [Hid, HT.out, HA.out, HP.out, HQ.out]; rfl, hbw'⟩
            case measure => simp [intOf]; omega
          · skip
            have HP := Lib.hid hp
            have HQ := Lib.hid hq
            clear hp hq
            go_wp2
            go_region_held3 (fun W => W.cell? ⟨b, off + k * 4, none⟩ = some (.int .u64 (wd s 0)) ∧ W.cell? ⟨b, off + k * 4 + 1, none⟩ = some (.int .u64 (wd s 1)) ∧ W.cell? ⟨b, off + k * 4 + 1 + 1, none⟩ = some (.int .u64 (wd s 2)) ∧ W.cell? ⟨b, off + k * 4 + 1 + 1 + 1, none⟩ = some (.int .u64 (wd s 3)) ∧ Below wr.heap.size wr W)
              (first | exact al_keep hbl (by assumption) (by assumption) | exact ⟨e0, e1, e2, e3, (Below.refl _ _).drew⟩)
              (first
                | (go_at_call 12; first | ((with_reducible refine (rhas_any s x hx _).mono ?_); rw [HP.out]; rintro e w2 ⟨rfl, hb2⟩) | ((with_reducible refine (rhas_any s y hy _).mono ?_); rw [HQ.out]; rintro e w3 ⟨rfl, hb3⟩)))
            have hS := al_below (w5 := wr) (by assumption)
            have hbw' := hbw.trans (hS.mono hbw.size)
            clear hS
            go_wp2
            go_ret
            exact ⟨ret_bool (HNO.out (by rw [HP.out, HQ.out]; rfl)).symm, hbw'⟩
        · cases hq : s.getLsbD y
          · skip
            have HP := Lib.hid hp
            have HQ := Lib.hid hq
            clear hp hq
            go_wp2
            go_region_held3 (fun W => W.cell? ⟨b, off + k * 4, none⟩ = some (.int .u64 (wd s 0)) ∧ W.cell? ⟨b, off + k * 4 + 1, none⟩ = some (.int .u64 (wd s 1)) ∧ W.cell? ⟨b, off + k * 4 + 1 + 1, none⟩ = some (.int .u64 (wd s 2)) ∧ W.cell? ⟨b, off + k * 4 + 1 + 1 + 1, none⟩ = some (.int .u64 (wd s 3)) ∧ Below wr.heap.size wr W)
              (first | exact al_keep hbl (by assumption) (by assumption) | exact ⟨e0, e1, e2, e3, (Below.refl _ _).drew⟩)
              (first
                | (go_at_call 12; first | ((with_reducible refine (rhas_any s x hx _).mono ?_); rw [HP.out]; rintro e w2 ⟨rfl, hb2⟩) | ((with_reducible refine (rhas_any s y hy _).mono ?_); rw [HQ.out]; rintro e w3 ⟨rfl, hb3⟩)))
            have hS := al_below (w5 := wr) (by assumption)
            have hbw' := hbw.trans (hS.mono hbw.size)
            clear hS
            go_wp2
            go_ret
            exact ⟨ret_bool (HNO.out (by rw [HP.out, HQ.out]; rfl)).symm, hbw'⟩
          · skip
            have HP := Lib.hid hp
            have HQ := Lib.hid hq
            clear hp hq
            go_wp2
            go_region_held3 (fun W => W.cell? ⟨b, off + k * 4, none⟩ = some (.int .u64 (wd s 0)) ∧ W.cell? ⟨b, off + k * 4 + 1, none⟩ = some (.int .u64 (wd s 1)) ∧ W.cell? ⟨b, off + k * 4 + 1 + 1, none⟩ = some (.int .u64 (wd s 2)) ∧ W.cell? ⟨b, off + k * 4 + 1 + 1 + 1, none⟩ = some (.int .u64 (wd s 3)) ∧ Below wr.heap.size wr W)
              (first | exact al_keep hbl (by assumption) (by assumption) | exact ⟨e0, e1, e2, e3, (Below.refl _ _).drew⟩)
              (first
                | (go_at_call 12; first | ((with_reducible refine (rhas_any s x hx _).mono ?_); rw [HP.out]; rintro e w2 ⟨rfl, hb2⟩) | ((with_reducible refine (rhas_any s y hy _).mono ?_); rw [HQ.out]; rintro e w3 ⟨rfl, hb3⟩)))
            have hS := al_below (w5 := wr) (by assumption)
            have hbw' := hbw.trans (hS.mono hbw.size)
            clear hS
            go_wp2
            go_roundw
            case rel => exact ⟨k + 1, by omega, num_succ k, by rw [Hid, HT.out, HA.out, HP.out, HQ.out]; rfl, hbw'⟩
            case measure => simp [intOf]; omega
      · obtain rfl : k = l.length := by omega
        rw [List.take_length] at HA
        go_wp2
        go_ret
        exact ⟨ret_bool HA.out.symm, hbw⟩
end Go.Proofs.YtocllbdfdmpopaaDoor
