/- Texts that a proof rests on: The contract of minim.entries: how each state is come to. | Mathematics: a state has at most 256 arcs. | Mathematics: refine is right, whichever part of a class is taken. | Mathematics: splits one behind the other; classes are no finer than what is alike. | Values in the order in which they come first, and who has them; a map from numbers to numbers; rows in a row that grows. | The contract of minim.byAccept. -/
import Derived.Test.YtamgldhnfcikbaaK16
set_option maxRecDepth 100000
namespace Go.Proofs.Ytamgldhnfcikbaa
open List (getElem_toArray getElem_cons_succ getElem_cons_zero setIfInBounds_toArray set_cons_zero set_cons_succ)
open Go.RowKit

theorem infoEnt : (Try.prog.info? 114).map (fun i => (i.zero, i.size, i.bytes)) = some (some (.agg #[.int .i64 0, .int .i64 0]), 2, 16) := by kernel_rfl
theorem infoEnts : (Try.prog.info? 112).map (fun i => (i.zero, i.size, i.bytes)) = some (some (.slice none 0 0), 1, 24) := by kernel_rfl
def gE (x : Nat × Nat) : List Value := [.int .i64 x.1, .int .i64 x.2]
theorem cntB_le (f : Nat → Bool) : ∀ n, cntB f n ≤ n
  | 0 => Nat.le_refl _
  | n + 1 => by have := cntB_le f n; have := cntB_step f n; omega
def entC (f : Nat → Bool) (k : Nat) (a : Arc3) (c : Nat) : List (Nat × Nat × Nat) := (List.range c).map fun i => (a.dest.toNat, k, cntB f a.lo + i)
theorem entC_all (f : Nat → Bool) (k : Nat) (a : Arc3) : entC f k a (cntB f a.hi + 1 - cntB f a.lo) = entA f k a := rfl
theorem entC_succ (f : Nat → Bool) (k : Nat) (a : Arc3) (c : Nat) : entC f k a (c + 1) = entC f k a c ++ [(a.dest.toNat, k, cntB f a.lo + c)] := by
  unfold entC
  rw [List.range_succ, List.map_append]; rfl
theorem entC_len (f : Nat → Bool) (k : Nat) (a : Arc3) (c : Nat) : (entC f k a c).length = c := by simp [entC]
theorem sel_len (E : List (Nat × Nat × Nat)) (t : Nat) : (sel E t).length ≤ E.length := by
  unfold sel
  rw [List.length_map]; exact List.length_filter_le _ _
def Ents (n : Nat) (E : List (Nat × Nat × Nat)) (w : World) (e : Ending) (w' : World) : Prop := ∃ b V, e = .returned (.slice (some ⟨b, 0, none⟩) n n) ∧ Hid (RR w' 114 112 2 b (b + 1) n gE (sel E) V) ∧ w.heap.size ≤ b ∧ Hid (Below w.heap.size w w')
set_option linter.unusedSimpArgs false in
set_option maxHeartbeats 8000000 in
theorem entries_any (v : Value) (m : List Sta) (f : Nat → Bool) (w : World) (hv : MachAt w v m) (hn : m.length ≤ 4096) (hl : ∀ s ∈ m, s.arcs.length ≤ 256) (hm : Mays m) (hfit : ∀ s ∈ m, fitsB m.length s.arcs = true) :
    Calls Try.prog 51 #[v, .agg (Ints fun i => (cntB f i : Nat))] w (Ents m.length (entU f m m.length) w) := by
  have mixed : Try.prog.follows .mixedOrders = true := by kernel_rfl
  obtain ⟨i0, hi0, hz0, hz1, hz2⟩ := info_parts infoEnt
  have HI := Lib.hid (And.intro hi0 (And.intro hz0 (And.intro hz1 hz2)))
  clear hi0 hz0 hz1 hz2
  obtain ⟨N, hN⟩ : ∃ N, w.heap.size = N := ⟨_, rfl⟩
  have HV := Lib.hid (show ∀ wr, Below N w wr → MachAt wr v m from fun wr h => hv.below (by rw [hN]; exact h))
  obtain ⟨av, cv, rfl⟩ := hv.len
  have HL := Lib.hid hl
  have HM := Lib.hid hm
  have HFT := Lib.hid hfit
  clear hv hl hm hfit
  obtain ⟨n, hnn⟩ : ∃ n, m.length = n := ⟨_, rfl⟩
  have hmk := make_slices Try.underlying79 infoEnts (c := (n : Int)) (n := n) rfl (by omega)
  obtain ⟨W2, hW2⟩ : ∃ W2, (w.alloc (.cells (Ints fun i => (cntB f i : Nat)) 49)).alloc (.cells (Slices n fun _ => .slice none 0 0) 112) = W2 := ⟨_, rfl⟩
  have HB0 : Hid (Below N w W2) := Lib.hid (by rw [← hW2, ← hN]; exact below2 _ _ _)
  have HI0 : Hid (IBlk W2 N fun i => (cntB f i : Nat)) := Lib.hid (by
    have := heap_alloc_new w (.cells (Ints fun i => (cntB f i : Nat)) 49)
    rw [hN] at this
    rw [← hW2]
    exact (Below.heap_alloc _ _ N (by simp; omega)).trans this)
  have HR0 : Hid (RR W2 114 112 2 (N + 1) (N + 2) n gE (sel (entU f m 0)) fun _ => .slice none 0 0) := Lib.hid (by
    have := RR.new (w.alloc (.cells (Ints fun i => (cntB f i : Nat)) 49)) 114 112 2 n gE
    rw [World.size_alloc, hN, hW2] at this
    exact this)
  have HFIN := Lib.hid (show ∀ w' V, RR w' 114 112 2 (N + 1) (N + 2) n gE (sel (entU f m n)) V → Below N w w' → Ents n (entU f m n) w (.returned (.slice (some ⟨N + 1, 0, none⟩) n n)) w' from fun w' V h h2 => ⟨N + 1, V, rfl, Lib.hid h, by omega, Lib.hid (by rw [hN]; exact h2)⟩)
  have HNN := Lib.hid hnn
  rw [hnn] at hn
  rw [hnn]
  clear hnn
  go_enter Try.func51, Try.ntmps51
  go_wp2
  clear hmk
  go_loopw [15] (fun z wr => ∃ (k : Nat) (V : Nat → Value), z = .int .i64 k ∧ k ≤ n ∧ (entU f m k).length ≤ k * 65536 ∧ Hid (RR wr 114 112 2 (N + 1) (N + 2) n gE (sel (entU f m k)) V) ∧ Hid (IBlk wr N fun i => (cntB f i : Nat)) ∧ Hid (Below N w wr)) (fun z _ => n - (intOf z).toNat)
  case atStart => exact ⟨0, _, rfl, Nat.zero_le _, Nat.zero_le _, HR0, HI0, HB0⟩
  case round =>
    clear HB0 HR0 HI0
    obtain ⟨k, V0, rfl, hk, hlE, HR0, HI0, HB0⟩ := hrel
    by_cases hlt : k < n
    · have hd : decide ((k : Int) < n) = true := decide_eq_true (by omega)
      have hkl : (k : Int) < n := by omega
      have hbw : Below w.heap.size w wr := by rw [hN]; exact HB0.out
      have hkm : k < m.length := by rw [HNN.out]; exact hlt
      obtain ⟨b1, o1, va, rfl, e0, e1, ha⟩ := (HV.out w (Below.refl _ _)).at rfl hkm
      obtain ⟨aa, ca, rfl⟩ := ha.len
      have HTK := Lib.hid (show entU f m (k + 1) = entU f m k ++ entS f k m[k].arcs from by rw [entU_succ, arcsOf_at hkm])
      have hlk := HL.out m[k] (List.getElem_mem hkm)
      have HMS := Lib.hid (HM.out m[k] (List.getElem_mem hkm)).2
      have HFK := Lib.hid (HFT.out m[k] (List.getElem_mem hkm))
      have HA := Lib.hid (show ∀ ws, Below N w ws → ArcsAt ws (.slice aa m[k].arcs.length ca) m[k].arcs from fun ws h => ha.below (by rw [hN]; exact h))
      replace e0 := cell_below hbw e0
      replace e1 := cell_below hbw e1
      have HR1 : Hid (RR wr 114 112 2 (N + 1) (N + 2) n gE (sel (entU f m k ++ entS f k (m[k].arcs.take 0))) V0) := Lib.hid (by rw [List.take_zero, show entS f k [] = [] from rfl, List.append_nil]; exact HR0.out)
      have hlE1 : (entU f m k ++ entS f k (m[k].arcs.take 0)).length ≤ k * 65536 + 0 * 256 := by
        have e9 : entU f m k ++ entS f k (m[k].arcs.take 0) = entU f m k := by rw [List.take_zero, show entS f k [] = [] from rfl, List.append_nil]
        have h9 := congrArg List.length e9
        omega
      clear ha hbw HR0
      generalize m[k].arcs = l at *
      generalize entU f m k = L at *
      go_wp2
      clear e0 e1
      go_loopw [24] (fun z ws => ∃ (j : Nat) (V : Nat → Value), z = .int .i64 j ∧ j ≤ l.length ∧ (L ++ entS f k (l.take j)).length ≤ k * 65536 + j * 256 ∧ Hid (RR ws 114 112 2 (N + 1) (N + 2) n gE (sel (L ++ entS f k (l.take j))) V) ∧ Hid (IBlk ws N fun i => (cntB f i : Nat)) ∧ Hid (Below N w ws)) (fun z _ => l.length - (intOf z).toNat)
      case atStart => exact ⟨0, V0, rfl, Nat.zero_le _, hlE1, HR1, HI0, HB0⟩
      case round =>
        clear HR1 HB0 HI0 hlE1
        obtain ⟨j, V, rfl, hj, hlE, HR1, HI0, HB0⟩ := hrel
        by_cases hlj : j < l.length
        · have hd2 : decide ((j : Int) < l.length) = true := decide_eq_true (by omega)
          have hjl : (j : Int) < l.length := by omega
          obtain ⟨g1, u1, rfl, a0, a1, a2⟩ := (HA.out wr HB0.out).at rfl hlj
          obtain ⟨hm1, hm2, hm3, hm4⟩ := HMS.out l[j] (List.getElem_mem hlj)
          obtain ⟨hlh, hd0, hdn⟩ := fits_arc HFK.out hlj
          rw [HNN.out] at hdn
          have HTJ := Lib.hid (show L ++ entS f k (l.take (j + 1)) = (L ++ entS f k (l.take j)) ++ entA f k l[j] from by rw [entS_take f k hlj, List.append_assoc])
          generalize l[j] = a at *
          generalize L ++ entS f k (l.take j) = E0 at *
          obtain ⟨Bx, hBx⟩ : ∃ Bx, wr.heap.size = Bx := ⟨_, rfl⟩
          have hbig := HR1.out.big
          have hb5 := new_one wr (.cells #[.int .u8 a.lo, .int .u8 a.hi, .int .i64 a.dest] 38)
          obtain ⟨w5, hw5⟩ : ∃ w5, wr.alloc (.cells #[.int .u8 a.lo, .int .u8 a.hi, .int .i64 a.dest] 38) = w5 := ⟨_, rfl⟩
          rw [hw5] at hb5
          have HX : Hid (ABlk w5 Bx a) := Lib.hid (by rw [← hw5, ← hBx]; exact heap_alloc_new wr _)
          have HI5 := Lib.hid (HI0.out.below hb5)
          have HR5 : Hid (RR w5 114 112 2 (N + 1) (N + 2) n gE (sel (E0 ++ entC f k a 0)) V) := Lib.hid (by rw [show entC f k a 0 = [] from rfl, List.append_nil]; exact HR1.out.below hb5)
          have HB5 : Hid (Below N w w5) := Lib.hid (HB0.out.trans (hb5.mono (by omega)))
          have HVX : Hid (∀ i q, i < n → (V i).ownBlock = some q → q ≠ Bx) := Lib.hid fun i q hi e => by have := ((HR1.out.own i hi).lt q e).2; omega
          have x0 := HX.out.cells.1
          have y0 := HI5.out.cell (i := a.lo) (by omega)
          have j1 : (a.lo : Int) < 256 := by omega
          have hml := cntB_mono f hlh
          have hch := cntB_le f a.hi
          clear HR1 HI0 HB0 hb5
          go_wp2
          clear hw5 a0 a1 a2 x0 y0
          go_loopw [9] (fun z ws => ∃ (c q : Nat) (V : Nat → Value), q = cntB f a.lo + c ∧ z = .int .i64 q ∧ c ≤ cntB f a.hi + 1 - cntB f a.lo ∧ Hid (ABlk ws Bx a) ∧ Hid (IBlk ws N fun i => (cntB f i : Nat)) ∧ Hid (RR ws 114 112 2 (N + 1) (N + 2) n gE (sel (E0 ++ entC f k a c)) V) ∧ Hid (∀ i q, i < n → (V i).ownBlock = some q → q ≠ Bx) ∧ Hid (Below N w ws)) (fun z _ => cntB f a.hi + 1 - (intOf z).toNat)
          case atStart => exact ⟨0, cntB f a.lo, V, rfl, rfl, Nat.zero_le _, HX, HI5, HR5, HVX, HB5⟩
          case round =>
            clear HX HI5 HR5 HVX HB5
            obtain ⟨c, q, V, hq, rfl, hc, HX, HIX, HRX, HVX, HBX⟩ := hrel
            have x1 := HX.out.cells.2.1
            have y1 := HIX.out.cell (i := a.hi) (by omega)
            have j2 : (a.hi : Int) < 256 := by omega
            by_cases hle : q ≤ cntB f a.hi
            · have hd3 : decide ((q : Int) ≤ (cntB f a.hi : Nat)) = true := decide_eq_true (by omega)
              obtain ⟨d, hdd⟩ : ∃ d : Nat, a.dest = (d : Int) := ⟨a.dest.toNat, by omega⟩
              have hdn2 : d < n := by omega
              have hdi : (d : Int) < n := by omega
              have HSC := Lib.hid (show ∀ t, sel (E0 ++ entC f k a (c + 1)) t = if t = d then sel (E0 ++ entC f k a c) t ++ [(k, q)] else sel (E0 ++ entC f k a c) t from fun t => by
                rw [entC_succ, ← List.append_assoc, sel_snoc, hdd, hq]; rfl)
              have hsl := sel_len (E0 ++ entC f k a c) d
              rw [List.length_append, entC_len] at hsl
              obtain ⟨a3, cp3, hV⟩ := HRX.out.form hdn2
              obtain ⟨ln, hln⟩ : ∃ ln, (sel (E0 ++ entC f k a c) d).length = ln := ⟨_, rfl⟩
              rw [hln] at hV hsl
              have hbwr := HRX.out.big
              have HRR := HRX
              have HROW : Hid (wr.ownsRow (N + 2) 114 2 (.slice a3 ln cp3) ln ((sel (E0 ++ entC f k a c) d).flatMap gE)) := Lib.hid (by have := HRR.out.own d hdn2; rw [hV, hln] at this; exact this)
              have d0 : wr.drew.cell? ⟨N + 1, d, none⟩ = some (.slice a3 ln cp3) := by have := HRR.out.cell hdn2; rw [hV] at this; exact this
              have d1 : wr.drew.cell? ⟨Bx, 2, none⟩ = some (.int .i64 (d : Nat)) := by have := HX.out.cells.2.2; rw [hdd] at this; exact this
              have HVK := Lib.hid hV
              have HVL := Lib.hid (show ∀ q, (Value.slice a3 ln cp3).ownBlock = some q → q ≠ Bx from fun q e => HVX.out d q hdn2 (by rw [hV]; exact e))
              have HLN := Lib.hid hln
              have HQ := Lib.hid hq
              have hxlt := HX.out.lt
              clear hV HRX hln hq hdd
              go_upto_region 11 with fail
              clear x1 y1
              refine region_goes 14 15 rfl (fun W => W.cell? ⟨N + 1, d, none⟩ = some (.slice a3 ln cp3) ∧ W.cell? ⟨Bx, 2, none⟩ = some (.int .i64 (d : Nat))) mixed ⟨d0, d1⟩ (fun hHeld => ?_)
              clear d0 d1
              refine goes_take (i := 0) (v := ?gv1) rfl (by kernel_rfl) (by kernel_rfl) (by kernel_rfl) (by kernel_rfl) (fun _ _ _ h => h) (Or.inl ⟨by rfl, ?gy1⟩) (by assumption) ?gr1
              case gy1 => (intro W9 hW9; obtain ⟨k0, k1⟩ := hW9; first | (go_simp; done) | (go_simp; with_reducible rfl))
              simp only [Act.put, getElem_toArray, getElem_cons_succ, getElem_cons_zero, setIfInBounds_toArray, set_cons_zero, set_cons_succ]
              refine goes_take (i := 1) (v := ?gv2) rfl (by kernel_rfl) (by kernel_rfl) (by kernel_rfl) (by kernel_rfl) (fun _ _ _ h => h) (Or.inl ⟨by rfl, ?gy2⟩) (by assumption) ?gr2
              case gy2 => (intro W9 hW9; obtain ⟨k0, k1⟩ := hW9; first | (go_simp; done) | (go_simp; with_reducible rfl))
              simp only [Act.put, getElem_toArray, getElem_cons_succ, getElem_cons_zero, setIfInBounds_toArray, set_cons_zero, set_cons_succ]
              refine goes_take (i := 2) (v := ?gv3) rfl (by kernel_rfl) (by kernel_rfl) (by kernel_rfl) (by kernel_rfl) (fun _ _ _ h => h) (Or.inl ⟨by rfl, ?gy3⟩) (by assumption) ?gr3
              case gy3 => (intro W9 hW9; obtain ⟨k0, k1⟩ := hW9; first | (go_simp; done) | (go_simp; with_reducible rfl))
              simp only [Act.put, getElem_toArray, getElem_cons_succ, getElem_cons_zero, setIfInBounds_toArray, set_cons_zero, set_cons_succ]
              refine goes_take (i := 3) (v := ?gv4) rfl (by kernel_rfl) (by kernel_rfl) (by kernel_rfl) (by kernel_rfl) (fun _ _ _ h => h) (Or.inl ⟨by rfl, ?gy4⟩) (by assumption) ?gr4
              case gy4 => (intro W9 hW9; obtain ⟨k0, k1⟩ := hW9; first | (go_simp; done) | (go_simp; with_reducible rfl))
              simp only [Act.put, getElem_toArray, getElem_cons_succ, getElem_cons_zero, setIfInBounds_toArray, set_cons_zero, set_cons_succ]
              refine goes_take (i := 4) (v := ?gv5) rfl (by kernel_rfl) (by kernel_rfl) (by kernel_rfl) (by kernel_rfl) (fun _ _ _ h => h) (Or.inl ⟨by rfl, ?gy5⟩) (by assumption) ?gr5
              case gy5 => (intro W9 hW9; obtain ⟨k0, k1⟩ := hW9; first | (go_simp; done) | (go_simp; with_reducible rfl))
              simp only [Act.put, getElem_toArray, getElem_cons_succ, getElem_cons_zero, setIfInBounds_toArray, set_cons_zero, set_cons_succ]
              refine goes_take (i := 5) (v := ?gv6) rfl (by kernel_rfl) (by kernel_rfl) (by kernel_rfl) (by kernel_rfl) (fun _ _ _ h => h) (Or.inl ⟨by rfl, ?gy6⟩) (by assumption) ?gr6
              case gy6 => (intro W9 hW9; obtain ⟨k0, k1⟩ := hW9; first | (go_simp; done) | (go_simp; with_reducible rfl))
              simp only [Act.put, getElem_toArray, getElem_cons_succ, getElem_cons_zero, setIfInBounds_toArray, set_cons_zero, set_cons_succ]
              refine goes_take (i := 6) (v := ?gv7) rfl (by kernel_rfl) (by kernel_rfl) (by kernel_rfl) (by kernel_rfl) (fun _ _ _ h => h) (Or.inl ⟨by rfl, ?gy7⟩) (by assumption) ?gr7
              case gy7 => (intro W9 hW9; obtain ⟨k0, k1⟩ := hW9; first | (go_simp; done) | (go_simp; with_reducible rfl))
              simp only [Act.put, getElem_toArray, getElem_cons_succ, getElem_cons_zero, setIfInBounds_toArray, set_cons_zero, set_cons_succ]
              refine goes_take (i := 7) (v := ?gv8) rfl (by kernel_rfl) (by kernel_rfl) (by kernel_rfl) (by kernel_rfl) (fun _ _ _ h => h) (Or.inl ⟨by rfl, ?gy8⟩) (by assumption) ?gr8
              case gy8 => (intro W9 hW9; obtain ⟨k0, k1⟩ := hW9; first | (go_simp; done) | (go_simp; with_reducible rfl))
              simp only [Act.put, getElem_toArray, getElem_cons_succ, getElem_cons_zero, setIfInBounds_toArray, set_cons_zero, set_cons_succ]
              refine goes_take (i := 8) (v := ?gv9) rfl (by kernel_rfl) (by kernel_rfl) (by kernel_rfl) (by kernel_rfl) (fun _ _ _ h => h) (Or.inl ⟨by rfl, ?gy9⟩) (by assumption) ?gr9
              case gy9 => (intro W9 hW9; obtain ⟨k0, k1⟩ := hW9; first | (go_simp; done) | (go_simp; with_reducible rfl))
              simp only [Act.put, getElem_toArray, getElem_cons_succ, getElem_cons_zero, setIfInBounds_toArray, set_cons_zero, set_cons_succ]
              refine goes_take (i := 9) (v := ?gv10) rfl (by kernel_rfl) (by kernel_rfl) (by kernel_rfl) (by kernel_rfl) (fun _ _ _ h => h) (Or.inl ⟨by rfl, ?gy10⟩) (by assumption) ?gr10
              case gy10 => (intro W9 hW9; obtain ⟨k0, k1⟩ := hW9; first | (go_simp; done) | (go_simp; with_reducible rfl))
              simp only [Act.put, getElem_toArray, getElem_cons_succ, getElem_cons_zero, setIfInBounds_toArray, set_cons_zero, set_cons_succ]
              refine goes_take (i := 10) (v := ?gv11) rfl (by kernel_rfl) (by kernel_rfl) (by kernel_rfl) (by kernel_rfl) (fun _ _ _ h => h) (Or.inl ⟨by rfl, ?gy11⟩) (by assumption) ?gr11
              case gy11 => (intro W9 hW9; obtain ⟨k0, k1⟩ := hW9; first | (go_simp; done) | (go_simp; with_reducible rfl))
              simp only [Act.put, getElem_toArray, getElem_cons_succ, getElem_cons_zero, setIfInBounds_toArray, set_cons_zero, set_cons_succ]
              refine goes_one (i := 11) (by kernel_rfl) rfl (fun K9 hK9 => ?_)
              go_simp
              obtain ⟨w6, hw6⟩ : ∃ w6, (wr.alloc (.cells #[.int .i64 k, .int .i64 q] 114)).drew = w6 := ⟨_, rfl⟩
              have hba : Below wr.heap.size wr w6 := by
                have h := new_one wr (.cells #[.int .i64 k, .int .i64 q] 114)
                rw [← hw6]; exact ⟨h.os, h.tape, h.output, h.size, h.block⟩
              have hbd : Below wr.drew.heap.size wr.drew w6 := ⟨hba.os, hba.tape, hba.output, hba.size, hba.block⟩
              have hxn : w6.heap[wr.heap.size]? = some (.cells #[.int .i64 k, .int .i64 q] 114 (0, 0)) := by rw [← hw6]; exact heap_alloc_new wr _
              have hs6 : w6.heap.size = wr.heap.size + 1 := by rw [← hw6]; show (wr.alloc _).heap.size = _; simp
              have HR6 := Lib.hid (HRR.out.below hba)
              have HRA := Lib.hid (row_same HROW.out fun q e => hba.block q (HROW.out.lt q e).2)
              obtain ⟨k0, k1⟩ := hHeld
              have hk6 := (And.intro (cell_below hbd k0) (cell_below hbd k1))
              try rw [hw6]
              refine hK9.out _ _ (fun _ => hk6) (fun hHeld => ?_)
              have hHeld := hHeld (by decide)
              clear hK9 K9 k0 k1 hk6 hw6 hbd
              refine goes_one (i := 12) (by kernel_rfl) rfl (fun K9 hK9 => ?_)
              rw [if_pos (by rfl)]
              refine wp_append_lies _ _ _ 112 rfl (N + 2) 114 i0 (.agg #[.int .i64 0, .int .i64 0]) 2 16 Try.underlying112 HI.out.1 HI.out.2.1 HI.out.2.2.1 HI.out.2.2.2 rfl (by decide) (.slice a3 ln cp3) ln ((sel (E0 ++ entC f k a c) d).flatMap gE) rfl HRA.out ⟨wr.heap.size, 0, none⟩ 1 1 [.int .i64 k, .int .i64 q] rfl rfl (news_in (cs := #[.int .i64 k, .int .i64 q]) hxn) (by simp [Value.oneCell']) (by omega) (by unfold maxLen; omega) (by omega) (by have := HR6.out.big; omega) (wr.heap.size + 1) hs6 ?_
              intro g9 cap2 w8 h2 h3 h4 h5
              have hv8 : (V d).ownBlock = (Value.slice (some ⟨g9, 0, none⟩) (ln + 1) cap2).ownBlock ∨ ∃ q, (Value.slice (some ⟨g9, 0, none⟩) (ln + 1) cap2).ownBlock = some q ∧ w6.heap.size ≤ q := by
                rw [HVK.out]
                rcases h4 with h4 | h4
                · exact .inl h4
                · exact .inr ⟨g9, rfl, by omega⟩
              have HRP := Lib.hid (HR6.out.push (f' := sel (E0 ++ entC f k a (c + 1))) (V' := fun i => if i = d then .slice (some ⟨g9, 0, none⟩) (ln + 1) cap2 else V i) (x := (k, q)) hdn2 (by rw [HVK.out]; exact h3) (by rw [HLN.out]; exact h2) hv8 (by simp) (fun i hi => by simp [hi]) (by rw [HSC.out, if_pos rfl]) (fun i hi => by rw [HSC.out, if_neg hi]))
              have HVY : Hid (∀ i q, i < n → (if i = d then Value.slice (some ⟨g9, 0, none⟩) (ln + 1) cap2 else V i).ownBlock = some q → q ≠ Bx) := Lib.hid fun i q hi e => by
                by_cases ei : i = d
                · rw [if_pos ei] at e
                  rcases hv8 with h | ⟨q', h, hq'⟩
                  · exact HVX.out d q hdn2 (h.trans e)
                  · rw [h] at e; cases e; omega
                · rw [if_neg ei] at e
                  exact HVX.out i q hi e
              have hB8 : Below N w w8 := (HBX.out.trans (hba.mono (by omega))).grown h3 (by omega) (fun q e => by have := (HROW.out.lt q e).1; omega)
              have HB8 := Lib.hid (hB8.setCell (p := ⟨N + 1, d, none⟩) (Nat.le_succ N) (.slice (some ⟨g9, 0, none⟩) (ln + 1) cap2))
              have HX8 : Hid (ABlk (w8.setCell ⟨N + 1, d, none⟩ (.slice (some ⟨g9, 0, none⟩) (ln + 1) cap2)) Bx a) := Lib.hid (by
                refine ABlk.other ?_ (show Bx ≠ N + 1 by omega) _
                exact (h3.block Bx (by omega) (fun e => HVL.out Bx e.symm rfl)).trans ((hba.block Bx hxlt).trans HX.out))
              have HI8 : Hid (IBlk (w8.setCell ⟨N + 1, d, none⟩ (.slice (some ⟨g9, 0, none⟩) (ln + 1) cap2)) N fun i => (cntB f i : Nat)) := Lib.hid (by
                refine IBlk.other ?_ (show N ≠ N + 1 by omega) _
                exact (h3.block N (by omega) (fun e => by have := (HROW.out.lt N e.symm).1; omega)).trans ((hba.block N (by omega)).trans HIX.out))
              have hfz : w8.frozen? ⟨N + 1, d, none⟩ = false := by
                have h9 : w8.heap[N + 1]? = w6.heap[N + 1]? := h3.block (N + 1) HR6.out.lt (fun e => by have := (HROW.out.lt (N + 1) e.symm).1; omega)
                exact frozen_row (j := d) (h9.trans HR6.out.blk)
              obtain ⟨k0, k1⟩ := hHeld
              have hk8 : ∀ {a : Addr} {v : Value}, w6.cell? a = some v → some a.block ≠ (Value.slice a3 ln cp3).ownBlock → w8.cell? a = some v := fun hc hn => (World.cell?_of_block (h3.block _ (cell_lt hc) hn)).trans hc
              refine hK9.out _ _ (fun _ => ⟨hk8 k0 (fun e => by have h := (HROW.out.lt _ e.symm).1; exact absurd h (by show ¬ N + 2 ≤ N + 1; omega)), hk8 k1 (fun e => HVL.out _ e.symm rfl)⟩) (fun hHeld => ?_)
              have hHeld := hHeld (by decide)
              clear hK9 K9 hk8 h2 h3 h4 h5 hxn hba k0 k1
              refine goes_one (i := 13) (by kernel_rfl) rfl (fun K9 hK9 => ?_)
              go_simp
              refine hK9.out _ _ (fun _ => hHeld) (fun hHeld => ?_)
              have hHeld := hHeld (by decide)
              clear hK9 K9
              refine goes_one (i := 14) (by kernel_rfl) rfl (fun K9 hK9 => ?_)
              go_simp
              refine hK9.out _ _ (fun h => absurd rfl h) (fun _ => ?_)
              clear hK9 K9 hHeld
              refine goes_done (by kernel_rfl) ?_ _
              go_wp2
              go_roundw
              case rel => exact ⟨c + 1, q + 1, _, by have := HQ.out; omega, num_succ q, by have := HQ.out; omega, HX8, HI8, HRP, HVY, HB8⟩
              case measure =>
                have := HQ.out
                simp [intOf]; omega
            · have hd3 : decide ((q : Int) ≤ (cntB f a.hi : Nat)) = false := decide_eq_false (by omega)
              obtain rfl : c = cntB f a.hi + 1 - cntB f a.lo := by omega
              rw [entC_all, ← HTJ.out] at HRX
              have hlE2 : (L ++ entS f k (l.take (j + 1))).length ≤ k * 65536 + (j + 1) * 256 := by
                rw [HTJ.out, List.length_append, ← entC_all, entC_len]; omega
              go_wp2
              go_roundw
              case rel => exact ⟨j + 1, V, num_succ j, by omega, hlE2, HRX, HIX, HBX⟩
              case measure => simp [intOf]; omega
        · obtain rfl : j = l.length := by omega
          have hd2 : decide ((l.length : Int) < l.length) = false := by simp
          rw [List.take_length, ← HTK.out] at HR1 hlE
          go_wp2
          go_roundw
          case rel => exact ⟨k + 1, V, num_succ k, by omega, by omega, HR1, HI0, HB0⟩
          case measure => simp [intOf]; omega
    · obtain rfl : k = n := by omega
      have hd : decide ((k : Int) < k) = false := by simp
      go_wp2
      exact bodyPost_ret (v := .slice (some ⟨N + 1, 0, none⟩) k k) (by simp [results, Try.results51, go_sem, *]) rfl (HFIN.out _ _ HR0.out HB0.out)
end Go.Proofs.Ytamgldhnfcikbaa
set_option maxRecDepth 100000
namespace Go.Proofs.Ytamgldhnfcikbaa
open Go.RowKit

theorem fits_len {n : Nat} {l : List Arc3} (hf : fitsB n l = true) (hb : ∀ a ∈ l, a.hi < 256) : l.length ≤ 256 := by
  have h := nodup_nat_le 256 (l.map Arc3.lo) (by
    rw [List.Nodup, List.pairwise_map, List.pairwise_iff_getElem]
    intro i j hi hj hij e
    have h1 := fits_rise hf j hj i hij
    have h2 := (fits_arc hf hi).1
    omega) (fun x hx => by
    obtain ⟨a, ha, rfl⟩ := List.mem_map.1 hx
    obtain ⟨i, hi, rfl⟩ := List.getElem_of_mem ha
    have h2 := (fits_arc hf hi).1
    have h3 := hb _ (List.getElem_mem hi)
    omega)
  simpa using h
def fromS (E : List (Nat × Nat × Nat)) (ts : List Nat) (q : Nat) : List Nat := ts.flatMap fun t => ((sel E t).filter fun p => p.2 == q).map Prod.fst
theorem mem_fromS {E : List (Nat × Nat × Nat)} {ts : List Nat} {q s : Nat} : s ∈ fromS E ts q ↔ ∃ t ∈ ts, (s, q) ∈ sel E t := by
  unfold fromS
  rw [List.mem_flatMap]
  refine exists_congr fun t => and_congr_right fun _ => ?_
  rw [List.mem_map]
  constructor
  · rintro ⟨p, hp, rfl⟩
    rw [List.mem_filter, beq_iff_eq] at hp
    rw [← hp.2]; exact hp.1
  · exact fun h => ⟨(s, q), List.mem_filter.2 ⟨h, by simp⟩, rfl⟩
theorem apart_of {E : List (Nat × Nat × Nat)} (h : E.Pairwise fun x y => x.2 ≠ y.2) : ∀ {x y : Nat × Nat × Nat}, x ∈ E → y ∈ E → x.2 = y.2 → x = y := by
  induction E with
  | nil => intro x y hx; simp at hx
  | cons z E ih =>
    rw [List.pairwise_cons] at h
    intro x y hx hy e
    rcases List.mem_cons.1 hx with e1 | hx1 <;> rcases List.mem_cons.1 hy with e2 | hy1
    · rw [e1, e2]
    · exact absurd (e1 ▸ e) (h.1 y hy1)
    · exact absurd (e2 ▸ e.symm) (h.1 x hx1)
    · exact ih h.2 hx1 hy1 e
theorem fromS_nodup {E : List (Nat × Nat × Nat)} (h : E.Pairwise fun x y => x.2 ≠ y.2) {ts : List Nat} (ht : ts.Nodup) (q : Nat) : (fromS E ts q).Nodup := by
  unfold fromS
  rw [List.Nodup, List.pairwise_flatMap]
  refine ⟨fun t _ => ?_, List.Pairwise.imp (fun {t u} hne => ?_) ht⟩
  · rw [List.pairwise_map]
    have h1 : ((sel E t).filter fun p => p.2 == q).Nodup := (sel_apart h t).filter _
    refine List.Pairwise.imp_of_mem ?_ h1
    intro a b ha hb hne e
    rw [List.mem_filter, beq_iff_eq] at ha hb
    exact hne (Prod.ext e (ha.2.trans hb.2.symm))
  · intro x hx y hy e
    subst e
    have hx2 : (x, q) ∈ sel E t := by
      obtain ⟨p, hp, rfl⟩ := List.mem_map.1 hx
      rw [List.mem_filter, beq_iff_eq] at hp
      rw [← hp.2]; exact hp.1
    have hy2 : (x, q) ∈ sel E u := by
      obtain ⟨p, hp, rfl⟩ := List.mem_map.1 hy
      rw [List.mem_filter, beq_iff_eq] at hp
      rw [← hp.2]; exact hp.1
    have := apart_of h (mem_sel.1 hx2) (mem_sel.1 hy2) rfl
    exact hne (congrArg Prod.fst this)
end Go.Proofs.Ytamgldhnfcikbaa
set_option maxRecDepth 100000
namespace Go.Proofs.Ytamgldhnfcikbaa
open Go.RowKit

def Stab (m : List Sta) (n : Nat) (C : Nat → Nat) (U : Nat → Prop) : Prop := ∀ s t, s < n → t < n → C s = C t → ∀ b, b < 256 →
  ((∃ x : Nat, x < n ∧ nextS m s b = x ∧ U x) ↔ (∃ x : Nat, x < n ∧ nextS m t b = x ∧ U x))
theorem Stab.congr {m : List Sta} {n : Nat} {C : Nat → Nat} {U V : Nat → Prop} (h : Stab m n C U) (he : ∀ x, x < n → (U x ↔ V x)) : Stab m n C V := fun s t hs ht e b hb => by
  have key : ∀ s, (∃ x : Nat, x < n ∧ nextS m s b = x ∧ U x) ↔ (∃ x : Nat, x < n ∧ nextS m s b = x ∧ V x) := fun s => exists_congr fun x => and_congr_right fun hx => and_congr_right fun _ => he x hx
  rw [← key, ← key]
  exact h s t hs ht e b hb
theorem Stab.mono {m : List Sta} {n : Nat} {C C' : Nat → Nat} {U : Nat → Prop} (h : Stab m n C U) (hr : ∀ s t, s < n → t < n → C' s = C' t → C s = C t) : Stab m n C' U :=
  fun s t hs ht e => h s t hs ht (hr s t hs ht e)
theorem Stab.diff {m : List Sta} {n : Nat} {C : Nat → Nat} {U V : Nat → Prop} (h : Stab m n C U) (k : Stab m n C V) : Stab m n C fun x => U x ∧ ¬ V x := fun s t hs ht e b hb => by
  have key : ∀ s, (∃ x : Nat, x < n ∧ nextS m s b = x ∧ (U x ∧ ¬ V x)) ↔ (∃ x : Nat, x < n ∧ nextS m s b = x ∧ U x) ∧ ¬ (∃ x : Nat, x < n ∧ nextS m s b = x ∧ V x) := fun s => by
    constructor
    · rintro ⟨x, h1, h2, h3, h4⟩
      refine ⟨⟨x, h1, h2, h3⟩, ?_⟩
      rintro ⟨y, _, e2, h5⟩
      obtain rfl : x = y := by rw [h2] at e2; omega
      exact h4 h5
    · rintro ⟨⟨x, h1, h2, h3⟩, h4⟩
      exact ⟨x, h1, h2, h3, fun h5 => h4 ⟨x, h1, h2, h5⟩⟩
  rw [key, key, h s t hs ht e b hb, k s t hs ht e b hb]
def RF (m : List Sta) (n i : Nat) (C : Nat → Nat) : Prop := ∀ c, c < i → ∃ X : Nat → Prop, (∀ d, X d → i ≤ d) ∧ Stab m n C fun x => C x = c ∨ X (C x)
theorem RF.start (m : List Sta) (n : Nat) (C : Nat → Nat) : RF m n 0 C := fun c h => by omega
theorem RF.step {m : List Sta} {n k i : Nat} {C C' : Nat → Nat} (h : RF m n i C) (hik : i < k) (hr : ∀ s t, s < n → t < n → C' s = C' t → C s = C t) (ho : ∀ t, t < n → C' t = C t ∨ k ≤ C' t) (hP : Stab m n C' fun x => C x = i) : RF m n (i + 1) C' := fun c hc => by
  by_cases e : c = i
  · subst e
    refine ⟨fun d => k ≤ d ∧ ∃ x, x < n ∧ C' x = d ∧ C x = c, fun d hd => by omega, hP.congr fun x hx => ?_⟩
    constructor
    · intro h1
      rcases ho x hx with h2 | h2
      · exact .inl (h2.trans h1)
      · exact .inr ⟨h2, x, hx, rfl, h1⟩
    · rintro (h1 | ⟨_, y, hy, h1, h2⟩)
      · rcases ho x hx with h2 | h2
        · exact h2.symm.trans h1
        · omega
      · exact (hr x y hx hy h1.symm).trans h2
  · obtain ⟨X, hX, hS⟩ := h c (by omega)
    refine ⟨fun d => i + 1 ≤ d ∧ ∃ x, x < n ∧ C' x = d ∧ (C x = c ∨ X (C x)) ∧ C x ≠ i, fun d hd => hd.1, ((hS.mono hr).diff hP).congr fun x hx => ?_⟩
    constructor
    · rintro ⟨h1, h3⟩
      rcases ho x hx with h2 | h2
      · rcases h1 with h1 | h1
        · exact .inl (h2.trans h1)
        · have := hX _ h1
          exact .inr ⟨by omega, x, hx, rfl, .inr h1, h3⟩
      · exact .inr ⟨by omega, x, hx, rfl, h1, h3⟩
    · rintro (h1 | ⟨_, y, hy, h1, h2, h3⟩)
      · rcases ho x hx with h2 | h2
        · have h4 : C x = c := h2.symm.trans h1
          exact ⟨.inl h4, by omega⟩
        · omega
      · have h4 := hr x y hx hy h1.symm
        rw [h4]
        exact ⟨h2, h3⟩
theorem RF.done {m : List Sta} {n k : Nat} {C : Nat → Nat} (h : RF m n k C) (hc : ∀ t, t < n → C t < k) {s t b : Nat} (hs : s < n) (ht : t < n) (e : C s = C t) (hb : b < 256) {x : Nat} (hx : x < n) (hn : nextS m s b = x) : ∃ y : Nat, y < n ∧ nextS m t b = y ∧ C y = C x := by
  obtain ⟨X, hX, hS⟩ := h (C x) (hc x hx)
  obtain ⟨y, h1, h2, h3⟩ := (hS s t hs ht e b hb).1 ⟨x, hx, hn, .inl rfl⟩
  refine ⟨y, h1, h2, ?_⟩
  rcases h3 with h3 | h3
  · exact h3
  · have := hX _ h3
    have := hc y h1
    omega
theorem from_next {m : List Sta} {f : Nat → Bool} {n : Nat} (hmn : m.length = n) (hm : ∀ k, Marks f (arcsOf m k)) (hf : ∀ k, fitsB n (arcsOf m k) = true) {ts : List Nat} {s b : Nat} (hs : s < n) : s ∈ fromS (entU f m n) ts (cntB f b) ↔ ∃ t ∈ ts, nextS m s b = (t : Nat) := by
  rw [mem_fromS, ← hmn]
  exact exists_congr fun t => and_congr_right fun _ => sel_next hm hf (by omega)
theorem stab_split {m : List Sta} {f : Nat → Bool} {n i : Nat} {C C' : Nat → Nat} {ts : List Nat} (hmn : m.length = n) (hm : ∀ k, Marks f (arcsOf m k)) (hf : ∀ k, fitsB n (arcsOf m k) = true) (hts : ∀ t, t ∈ ts ↔ t < n ∧ C t = i)
    (hs : ∀ s t, s < n → t < n → C' s = C' t → ∀ q, q ≤ cntB f 255 → (s ∈ fromS (entU f m n) ts q ↔ t ∈ fromS (entU f m n) ts q)) : Stab m n C' fun x => C x = i := fun s t h1 h2 e b hb => by
  have key : ∀ s, s < n → ((∃ x : Nat, x < n ∧ nextS m s b = x ∧ C x = i) ↔ s ∈ fromS (entU f m n) ts (cntB f b)) := fun s hs => by
    rw [from_next hmn hm hf hs]
    refine exists_congr fun x => ?_
    rw [hts]
    exact ⟨fun ⟨a, b, c⟩ => ⟨⟨a, c⟩, b⟩, fun ⟨⟨a, c⟩, b⟩ => ⟨a, b, c⟩⟩
  rw [key s h1, key t h2]
  exact hs s t h1 h2 e _ (cntB_mono f (by omega))
end Go.Proofs.Ytamgldhnfcikbaa
set_option maxRecDepth 100000
namespace Go.Proofs.Ytamgldhnfcikbaa
open Go.RowKit

structure Fine (n k k' : Nat) (C C' : Nat → Nat) (Ls : List (List Nat)) : Prop where
  kk : k ≤ k'
  eq : ∀ t t', t < n → t' < n → (C' t = C' t' ↔ C t = C t' ∧ ∀ l ∈ Ls, (t ∈ l ↔ t' ∈ l))
  or : ∀ t, t < n → C' t = C t ∨ k ≤ C' t
theorem Fine.start (n k : Nat) (C : Nat → Nat) : Fine n k k C C [] := ⟨Nat.le_refl _, fun t t' _ _ => ⟨fun e => ⟨e, fun l hl => by simp at hl⟩, fun e => e.1⟩, fun t _ => .inl rfl⟩
theorem Fine.split {n k k' k2 : Nat} {C C' C2 O P : Nat → Nat} {sp : Nat → Nat × Nat × Nat} {Ls : List (List Nat)} {l : List Nat} (h : Fine n k k' C C' Ls) (hs : SplitR n k' k2 O P C' C2 sp l) : Fine n k k2 C C2 (Ls ++ [l]) := by
  refine ⟨Nat.le_trans h.kk hs.kk, fun t t' ht ht' => ?_, fun t ht => ?_⟩
  · rw [hs.eq t t' ht ht', h.eq t t' ht ht']
    constructor
    · rintro ⟨⟨e1, e2⟩, e3⟩
      refine ⟨e1, fun x hx => ?_⟩
      rcases List.mem_append.1 hx with hx | hx
      · exact e2 x hx
      · rw [List.mem_singleton] at hx; subst hx; exact e3
    · rintro ⟨e1, e2⟩
      exact ⟨⟨e1, fun x hx => e2 x (List.mem_append_left _ hx)⟩, e2 l (by simp)⟩
  · have h1 := h.kk
    rcases hs.or t ht with e | e
    · rw [e]; exact h.or t ht
    · exact .inr (by omega)
def Coarse (n : Nat) (A : Nat → Nat → Prop) (C : Nat → Nat) : Prop := ∀ s t, s < n → t < n → A s t → C s = C t
theorem Coarse.fine {n k k' : Nat} {C C' : Nat → Nat} {Ls : List (List Nat)} {A : Nat → Nat → Prop} (h : Coarse n A C) (hf : Fine n k k' C C' Ls) (hl : ∀ l ∈ Ls, ∀ s t, s < n → t < n → A s t → (s ∈ l ↔ t ∈ l)) : Coarse n A C' :=
  fun s t hs ht e => (hf.eq s t hs ht).2 ⟨h s t hs ht e, fun l hm => hl l hm s t hs ht e⟩
theorem from_alike {m : List Sta} {f : Nat → Bool} {n i b : Nat} {C : Nat → Nat} {ts : List Nat} {A : Nat → Nat → Prop} (hmn : m.length = n) (hm : ∀ k, Marks f (arcsOf m k)) (hf : ∀ k, fitsB n (arcsOf m k) = true) (hts : ∀ t, t ∈ ts ↔ t < n ∧ C t = i)
    (hC : Coarse n A C) (hsym : ∀ s t, A s t → A t s) (hgo : ∀ s t, s < n → t < n → A s t → ∀ x : Nat, nextS m s b = x → ∃ y : Nat, y < n ∧ nextS m t b = y ∧ A x y) {s t : Nat} (hs : s < n) (ht : t < n) (e : A s t) :
    s ∈ fromS (entU f m n) ts (cntB f b) ↔ t ∈ fromS (entU f m n) ts (cntB f b) := by
  have key : ∀ s t, s < n → t < n → A s t → s ∈ fromS (entU f m n) ts (cntB f b) → t ∈ fromS (entU f m n) ts (cntB f b) := fun s t hs ht e h => by
    rw [from_next hmn hm hf hs] at h
    rw [from_next hmn hm hf ht]
    obtain ⟨x, hx, h1⟩ := h
    obtain ⟨h2, h3⟩ := (hts x).1 hx
    obtain ⟨y, g1, g2, g3⟩ := hgo s t hs ht e x h1
    exact ⟨y, (hts y).2 ⟨g1, (hC x y h2 g1 g3).symm.trans h3⟩, g2⟩
  exact ⟨key s t hs ht e, key t s ht hs (hsym s t e)⟩
end Go.Proofs.Ytamgldhnfcikbaa
set_option maxRecDepth 100000
namespace Go.Proofs.Ytamgldhnfcikbaa
open Go.RowKit

def keysUp (f : Nat → Nat) : Nat → List Nat
  | 0 => []
  | k + 1 => if f k ∈ keysUp f k then keysUp f k else keysUp f k ++ [f k]
theorem keysUp_old {f : Nat → Nat} {k : Nat} (h : f k ∈ keysUp f k) : keysUp f (k + 1) = keysUp f k := by
  rw [keysUp, if_pos h]
theorem keysUp_new {f : Nat → Nat} {k : Nat} (h : f k ∉ keysUp f k) : keysUp f (k + 1) = keysUp f k ++ [f k] := by
  rw [keysUp, if_neg h]
theorem keysUp_mem (f : Nat → Nat) : ∀ k x, x ∈ keysUp f k ↔ ∃ i, i < k ∧ f i = x
  | 0, x => by simp [keysUp]
  | k + 1, x => by
    have ih := keysUp_mem f k
    by_cases h : f k ∈ keysUp f k
    · rw [keysUp_old h, ih]
      refine ⟨fun ⟨i, hi, e⟩ => ⟨i, by omega, e⟩, fun ⟨i, hi, e⟩ => ?_⟩
      by_cases hk : i = k
      · subst hk; rw [← e]; exact (ih _).1 h
      · exact ⟨i, by omega, e⟩
    · rw [keysUp_new h, List.mem_append, List.mem_singleton, ih]
      refine ⟨fun hx => ?_, fun ⟨i, hi, e⟩ => ?_⟩
      · rcases hx with ⟨i, hi, e⟩ | rfl
        · exact ⟨i, by omega, e⟩
        · exact ⟨k, by omega, rfl⟩
      · by_cases hk : i = k
        · subst hk; exact .inr e.symm
        · exact .inl ⟨i, by omega, e⟩
theorem keysUp_nodup (f : Nat → Nat) : ∀ k, (keysUp f k).Nodup
  | 0 => by simp [keysUp]
  | k + 1 => by
    have ih := keysUp_nodup f k
    by_cases h : f k ∈ keysUp f k
    · rw [keysUp_old h]; exact ih
    · rw [keysUp_new h]
      exact List.nodup_append.2 ⟨ih, by simp, fun a ha b hb e => by
        rw [List.mem_singleton] at hb
        exact h (hb ▸ e ▸ ha)⟩
theorem keysUp_len (f : Nat → Nat) : ∀ k, (keysUp f k).length ≤ k
  | 0 => by simp [keysUp]
  | k + 1 => by
    have ih := keysUp_len f k
    by_cases h : f k ∈ keysUp f k
    · rw [keysUp_old h]; omega
    · rw [keysUp_new h, List.length_append, List.length_singleton]; omega
def noOf (K : List Nat) (x : Nat) : Nat := K.findIdx (x == ·)
theorem noOf_lt {K : List Nat} {x : Nat} (h : x ∈ K) : noOf K x < K.length := List.findIdx_lt_length_of_exists ⟨x, h, by simp⟩
theorem noOf_at {K : List Nat} {x : Nat} (h : x ∈ K) : K[noOf K x]? = some x := by
  have h1 := noOf_lt h
  rw [List.getElem?_eq_getElem h1]
  have := List.findIdx_getElem (w := h1)
  have h2 : x = K[noOf K x] := eq_of_beq this
  exact congrArg some h2.symm
theorem noOf_far {K : List Nat} {x : Nat} (h : x ∉ K) : noOf K x = K.length := by
  unfold noOf
  refine List.findIdx_eq_length.2 fun y hy => ?_
  simp only [beq_eq_false_iff_ne, ne_eq]
  exact fun e => h (e ▸ hy)
theorem noOf_snoc {K : List Nat} {x : Nat} (h : x ∉ K) : noOf (K ++ [x]) x = K.length := by
  have h1 : (K ++ [x])[noOf (K ++ [x]) x]? = some x := noOf_at (by simp)
  have h2 := noOf_lt (K := K ++ [x]) (x := x) (by simp)
  rw [List.length_append, List.length_singleton] at h2
  by_cases hl : noOf (K ++ [x]) x < K.length
  · rw [List.getElem?_append_left hl] at h1
    exact absurd (List.mem_of_getElem? h1) h
  · omega
def grp (f : Nat → Nat) (K : List Nat) (k g : Nat) : List Nat := (List.range k).filter fun i => K[g]? == some (f i)
theorem grp_mem {f : Nat → Nat} {K : List Nat} {k g i : Nat} : i ∈ grp f K k g ↔ i < k ∧ K[g]? = some (f i) := by simp [grp]
theorem grp_nodup (f : Nat → Nat) (K : List Nat) (k g : Nat) : (grp f K k g).Nodup := List.nodup_range.filter _
theorem grp_len (f : Nat → Nat) (K : List Nat) (k g : Nat) : (grp f K k g).length ≤ k := by
  have := List.length_filter_le (fun i => K[g]? == some (f i)) (List.range k)
  rw [List.length_range] at this; exact this
theorem grp_here {f : Nat → Nat} {K : List Nat} {k : Nat} (h : f k ∈ K) : grp f K (k + 1) (noOf K (f k)) = grp f K k (noOf K (f k)) ++ [k] := by
  unfold grp
  rw [List.range_succ, List.filter_append]
  congr 1
  simp [noOf_at h]
theorem grp_else {f : Nat → Nat} {K : List Nat} {k g : Nat} (hd : K.Nodup) (h : f k ∈ K) (hg : g ≠ noOf K (f k)) : grp f K (k + 1) g = grp f K k g := by
  unfold grp
  rw [List.range_succ, List.filter_append]
  have : (List.filter (fun i => K[g]? == some (f i)) [k]) = [] := by
    rw [List.filter_cons]
    rw [if_neg]
    · rfl
    · intro e
      have e := eq_of_beq e
      have h1 := noOf_at h
      have hl : g < K.length := by
        rcases Nat.lt_or_ge g K.length with h2 | h2
        · exact h2
        · rw [List.getElem?_eq_none h2] at e; cases e
      have h2 := noOf_lt h
      rw [List.getElem?_eq_getElem hl] at e
      rw [List.getElem?_eq_getElem h2] at h1
      have he : K[g] = K[noOf K (f k)] := (Option.some.inj e).trans (Option.some.inj h1).symm
      have hp := List.pairwise_iff_getElem.1 hd
      rcases Nat.lt_trichotomy g (noOf K (f k)) with h3 | h3 | h3
      · exact hp _ _ hl h2 h3 he
      · exact hg h3
      · exact hp _ _ h2 hl h3 he.symm
  rw [this, List.append_nil]
theorem grp_snoc {f : Nat → Nat} {K : List Nat} {k g x : Nat} (hg : g ≠ K.length) : grp f (K ++ [x]) k g = grp f K k g := by
  unfold grp
  congr 1
  funext i
  rcases Nat.lt_or_ge g K.length with h | h
  · rw [List.getElem?_append_left h]
  · rw [List.getElem?_eq_none (by simp; omega), List.getElem?_eq_none h]
theorem grp_none {f : Nat → Nat} {K : List Nat} {k x : Nat} (h : ∀ i, i < k → f i ≠ x) : grp f (K ++ [x]) k K.length = [] := by
  unfold grp
  refine List.filter_eq_nil_iff.2 fun i hi => ?_
  rw [List.mem_range] at hi
  simp only [List.getElem?_append_right (Nat.le_refl _), Nat.sub_self, List.getElem?_cons_zero, beq_iff_eq, Option.some.injEq]
  exact fun e => h i hi e.symm
theorem grp_at {f : Nat → Nat} {k i : Nat} (h : i < k) : i ∈ grp f (keysUp f k) k (noOf (keysUp f k) (f i)) := grp_mem.2 ⟨h, noOf_at ((keysUp_mem f k _).2 ⟨i, h, rfl⟩)⟩
def UMap (es : List MapEntry) (K : List Nat) (s : Nat) : Prop := es.map (fun e => (e.key, e.val)) = (K.zipIdx s).map (fun p => (Value.int .u64 (p.1 : Nat), Value.int .i64 (p.2 : Nat)))
theorem UMap.push {es : Array MapEntry} {K : List Nat} (h : UMap es.toList K 0) (x : Nat) (c : Nat) : UMap (es.push { key := .int .u64 (x : Nat), val := .int .i64 (K.length : Nat), born := c }).toList (K ++ [x]) 0 := by
  unfold UMap at *
  rw [Array.toList_push, List.map_append, h, List.zipIdx_append, List.map_append]
  simp
theorem find_u64 (x : Nat) : ∀ (es : List MapEntry) (K : List Nat) (s i : Nat), UMap es K s →
    Instr.findNow (.int .u64) (.int .u64 (x : Nat)) es i = some (if noOf K x < K.length then some (i + noOf K x, .int .i64 (s + noOf K x : Nat)) else none)
  | [], K, s, i, h => by
    have : K = [] := by
      have := congrArg List.length h
      simp at this
      exact List.eq_nil_of_length_eq_zero this.symm
    subst this; rfl
  | e :: es, K, s, i, h => by
    rcases K with _ | ⟨g, K⟩
    · simp [UMap] at h
    · simp only [UMap, List.zipIdx_cons, List.map_cons, List.cons.injEq, Prod.mk.injEq] at h
      obtain ⟨⟨hk, hv⟩, ht⟩ := h
      have he : Instr.sameNow (.int .u64) (.int .u64 (x : Nat)) e.key = some (x == g) := by
        rw [hk]
        simp only [Instr.sameNow, if_true]
        congr 1
        rw [Bool.eq_iff_iff, beq_iff_eq, beq_iff_eq]; omega
      have ih := find_u64 x es K (s + 1) (i + 1) ht
      unfold noOf at ih ⊢
      rw [List.findIdx_cons]
      unfold Instr.findNow
      rw [he]
      cases hx : x == g
      · simp only [ih, cond_false, List.length_cons, Nat.add_lt_add_iff_right]
        by_cases h1 : K.findIdx (x == ·) < K.length
        · rw [if_pos h1, if_pos h1]
          congr 3
          · omega
          · congr 2; omega
        · rw [if_neg h1, if_neg h1]
      · simp [hv]
theorem key_u64 (x : Nat) (es : List MapEntry) (K : List Nat) (h : UMap es K 0) (w : World) : (Instr.findKey 40 (.int .u64 (x : Nat)) es).run Try.prog w = .ok (if noOf K x < K.length then some (noOf K x, .int .i64 (noOf K x : Nat)) else none) w := by
  have h1 := MapKept.run_findKey (P := Try.prog) (w := w) Try.underlying40 (find_u64 x es K 0 0 h)
  simpa using h1
theorem check_u64 (em : Bool) (x : Nat) (w : World) : (Instr.checkKey em 10000 40 (.int .u64 (x : Nat))).run Try.prog w = .ok () w := by kernel_rfl
def UM (w : World) (g : Nat) (K : List Nat) : Prop := ∃ es c, w.heap[g]? = some (.map es c) ∧ UMap es.toList K 0
theorem look_u64 {w : World} {g : Nat} {K : List Nat} (h : UM w g K) (x : Nat) : (Instr.lookup 107 (.map (some g)) (.int .u64 (x : Nat)) true).run Try.prog w = .ok (.tuple #[.int .i64 (if noOf K x < K.length then (noOf K x : Nat) else 0 : Nat), .bool (decide (noOf K x < K.length))]) w := by
  obtain ⟨es, c, hb, ht⟩ := h
  have hf := key_u64 x es.toList K ht w
  have hc := check_u64 es.isEmpty x w
  by_cases h1 : noOf K x < K.length
  · simp only [if_pos h1] at hf
    simp [Instr.lookup, run_underlying Try.underlying107, MapKept.run_getObj_map hb, hc, hf, Result.andThen, h1]
  · simp only [if_neg h1] at hf
    simp [Instr.lookup, run_underlying Try.underlying107, MapKept.run_getObj_map hb, hc, hf, Result.andThen, h1]
theorem put_u64 {w : World} {g : Nat} {K : List Nat} (h : UM w g K) {x : Nat} (hn : ¬ noOf K x < K.length) :
    ∃ es c, (Instr.mapUpdate 107 (.map (some g)) (.int .u64 (x : Nat)) (.int .i64 (K.length : Nat))).run Try.prog w = .ok () (setMap w g es c) ∧ UM (setMap w g es c) g (K ++ [x]) := by
  obtain ⟨es, c, hb, ht⟩ := h
  have hf := key_u64 x es.toList K ht w
  rw [if_neg hn] at hf
  refine ⟨es.push { key := .int .u64 (x : Nat), val := .int .i64 (K.length : Nat), born := c }, c + 1, ?_, _, _, setMap_new _ _ _ _ _ _ hb, ht.push x c⟩
  simp [Instr.mapUpdate, run_underlying Try.underlying107, MapKept.run_getObj_map hb, check_u64, hf, MapKept.run_setObj_map _ hb, Result.andThen, setMap]
theorem um_other {w w' : World} {b : Nat} {K : List Nat} (h : UM w b K) (e : w'.heap[b]? = w.heap[b]?) : UM w' b K := by
  obtain ⟨es, c, h1, h2⟩ := h
  exact ⟨es, c, e.trans h1, h2⟩
def valsV (n : Nat) (V : Nat → Value) : List Value := (List.range n).map V
theorem valsV_len (n : Nat) (V : Nat → Value) : (valsV n V).length = n := by simp [valsV]
theorem valsV_at {n i : Nat} (V : Nat → Value) (h : i < n) : (valsV n V)[i]? = some (V i) := by simp [valsV, h]
theorem valsV_set {n i : Nat} {V V' : Nat → Value} {v : Value} (hv : V' i = v) (h : ∀ j, j ≠ i → V' j = V j) : (valsV n V).set i v = valsV n V' := by
  apply List.ext_getElem?
  intro j
  rw [List.getElem?_set]
  by_cases e : i = j
  · subst e
    rw [if_pos rfl, valsV_len]
    by_cases hi : i < n
    · rw [if_pos hi, valsV_at V' hi, hv]
    · rw [if_neg hi, List.getElem?_eq_none (by rw [valsV_len]; omega)]
  · rw [if_neg e]
    by_cases hj : j < n
    · rw [valsV_at V hj, valsV_at V' hj, h j fun x => e x.symm]
    · rw [List.getElem?_eq_none (by rw [valsV_len]; omega), List.getElem?_eq_none (by rw [valsV_len]; omega)]
structure GR {α : Type} (w : World) (e t : TypeId) (sz B : Nat) (v : Value) (n : Nat) (g : α → List Value) (f : Nat → List α) (V : Nat → Value) : Prop where
  outer : w.ownsRow B t 1 v n (valsV n V)
  own : ∀ i, i < n → w.ownsRow B e sz (V i) (f i).length ((f i).flatMap g)
  apart : ∀ i j k, i < n → j < n → (V i).ownBlock = some k → (V j).ownBlock = some k → i = j
  oapart : ∀ i k, i < n → (V i).ownBlock = some k → v.ownBlock ≠ some k
  big : B ≤ w.heap.size
theorem GR.nil {α : Type} {w : World} {e t : TypeId} {sz B : Nat} {g : α → List Value} {f : Nat → List α} {V : Nat → Value} (h : B ≤ w.heap.size) : GR w e t sz B (.slice none 0 0) 0 g f V :=
  ⟨World.ownsRow_nil _ _ _ _, fun i hi => by omega, fun i j k hi => by omega, fun i k hi => by omega, h⟩
theorem GR.keep {α : Type} {w w' : World} {e t : TypeId} {sz B n : Nat} {v : Value} {g : α → List Value} {f : Nat → List α} {V : Nat → Value} (h : GR w e t sz B v n g f V) (hs : w.heap.size ≤ w'.heap.size)
    (hk : ∀ k, k < w.heap.size → B ≤ k → w'.heap[k]? = w.heap[k]?) : GR w' e t sz B v n g f V :=
  ⟨row_same h.outer fun k ek => hk k (h.outer.lt k ek).2 (h.outer.lt k ek).1, fun i hi => row_same (h.own i hi) fun k ek => hk k ((h.own i hi).lt k ek).2 ((h.own i hi).lt k ek).1, h.apart, h.oapart, Nat.le_trans h.big hs⟩
theorem GR.below {α : Type} {w w' : World} {e t : TypeId} {sz B n : Nat} {v : Value} {g : α → List Value} {f : Nat → List α} {V : Nat → Value} (h : GR w e t sz B v n g f V) (hb : Below w.heap.size w w') : GR w' e t sz B v n g f V :=
  h.keep hb.size fun k hk _ => hb.block k hk
theorem GR.congr {α : Type} {w : World} {e t : TypeId} {sz B n : Nat} {v : Value} {g : α → List Value} {f f' : Nat → List α} {V : Nat → Value} (h : GR w e t sz B v n g f V) (hf : ∀ i, i < n → f' i = f i) : GR w e t sz B v n g f' V :=
  ⟨h.outer, fun i hi => by rw [hf i hi]; exact h.own i hi, h.apart, h.oapart, h.big⟩
theorem GR.form {α : Type} {w : World} {e t : TypeId} {sz B n i : Nat} {v : Value} {g : α → List Value} {f : Nat → List α} {V : Nat → Value} (h : GR w e t sz B v n g f V) (hi : i < n) : ∃ a c, V i = .slice a (f i).length c := row_form (h.own i hi)
theorem GR.grow {α : Type} {w w8 : World} {e t : TypeId} {sz B n : Nat} {v u : Value} {g : α → List Value} {f f' : Nat → List α} {V V' : Nat → Value} (h : GR w e t sz B v n g f V)
    (h3 : w.grownBy w8 v.ownBlock) (h2 : w8.ownsRow B t 1 u (n + 1) (valsV n V ++ [.slice none 0 0])) (h4 : v.ownBlock = u.ownBlock ∨ ∃ q, u.ownBlock = some q ∧ w.heap.size ≤ q)
    (hV : ∀ i, i < n → V' i = V i) (hV2 : V' n = .slice none 0 0) (hf : ∀ i, i < n → f' i = f i) (hf2 : f' n = []) : GR w8 e t sz B u (n + 1) g f' V' := by
  have ho : ∀ i k, i < n + 1 → (V' i).ownBlock = some k → i < n ∧ (V i).ownBlock = some k := fun i k hi hk => by
    by_cases hin : i < n
    · rw [hV i hin] at hk; exact ⟨hin, hk⟩
    · obtain rfl : i = n := by omega
      rw [hV2] at hk; cases hk
  refine ⟨?_, fun i hi => ?_, fun i j k hi hj h1 h5 => ?_, fun i k hi hk => ?_, Nat.le_trans h.big h3.size⟩
  · have : valsV (n + 1) V' = valsV n V ++ [.slice none 0 0] := by
      unfold valsV
      rw [List.range_succ, List.map_append, List.map_singleton, hV2]
      congr 1
      exact List.map_congr_left fun i hi => hV i (List.mem_range.1 hi)
    rw [this]; exact h2
  · by_cases hin : i < n
    · rw [hV i hin, hf i hin]
      refine row_same (h.own i hin) fun k ek => ?_
      exact h3.block k ((h.own i hin).lt k ek).2 fun e9 => h.oapart i k hin ek e9.symm
    · obtain rfl : i = n := by omega
      rw [hV2, hf2]; exact World.ownsRow_nil _ _ _ _
  · obtain ⟨a1, a2⟩ := ho i k hi h1
    obtain ⟨b1, b2⟩ := ho j k hj h5
    exact h.apart i j k a1 b1 a2 b2
  · obtain ⟨a1, a2⟩ := ho i k hi hk
    intro eu
    rcases h4 with h4 | ⟨q, h4, h5⟩
    · exact h.oapart i k a1 a2 (h4.trans eu)
    · rw [h4] at eu; cases eu
      have := ((h.own i a1).lt _ a2).2; omega
theorem GR.push {α : Type} {w w' : World} {e t : TypeId} {sz B n i q c : Nat} {g : α → List Value} {f f' : Nat → List α} {V V' : Nat → Value} {v : Value} {x : α} (h : GR w e t sz B (.slice (some ⟨q, 0, none⟩) n c) n g f V) (hi : i < n)
    (hg : w.grownBy w' (V i).ownBlock) (hr : w'.ownsRow B e sz v ((f i).length + 1) ((f i).flatMap g ++ g x)) (hv : (V i).ownBlock = v.ownBlock ∨ ∃ p, v.ownBlock = some p ∧ w.heap.size ≤ p)
    (hV : V' i = v) (hV2 : ∀ j, j ≠ i → V' j = V j) (hf : f' i = f i ++ [x]) (hf2 : ∀ j, j ≠ i → f' j = f j) : GR (w'.setCell ⟨q, i, none⟩ v) e t sz B (.slice (some ⟨q, 0, none⟩) n c) n g f' V' := by
  have hq := (h.outer.lt q rfl).2
  have hne : ∀ j, j < n → (V j).ownBlock ≠ some q := fun j hj ek => h.oapart j q hj ek rfl
  have hvq : v.ownBlock ≠ some q := fun eq => by
    rcases hv with hv | ⟨p, hv, hp⟩
    · exact hne i hi (hv.trans eq)
    · rw [hv] at eq; cases eq; omega
  have fresh : ∀ j, j < n → j ≠ i → ∀ k, (V j).ownBlock = some k → v.ownBlock = some k → False := fun j hj hji k ek ev => by
    rcases hv with hv | ⟨q', hv, hq'⟩
    · exact hji (h.apart j i k hj hi ek (hv.trans ev))
    · rw [hv] at ev; cases ev
      have := ((h.own j hj).lt _ ek).2; omega
  refine ⟨?_, fun j hj => ?_, fun j1 j2 k h1 h2 e1 e2 => ?_, fun j k hj ek => ?_, by have := h.big; have := hg.size; simp; omega⟩
  · have h1 : w'.ownsRow B t 1 (.slice (some ⟨q, 0, none⟩) n c) n (valsV n V) := row_same h.outer fun k ek => by
      cases ek
      exact hg.block q hq fun e9 => hne i hi e9.symm
    have h2 := (h1.stored i v).1
    rw [valsV_set hV hV2] at h2; exact h2
  · by_cases hji : j = i
    · subst hji
      rw [hV, hf, List.length_append, List.length_singleton, List.flatMap_append, List.flatMap_singleton]
      refine row_same hr fun k ek => ?_
      exact Below.heap_setCell _ _ _ _ fun e9 => hvq (by rw [ek]; exact congrArg some e9)
    · rw [hV2 j hji, hf2 j hji]
      refine row_same (h.own j hj) fun k ek => ?_
      have h3 := (h.own j hj).lt k ek
      rw [Below.heap_setCell _ _ _ _ (fun e9 => hne j hj (by rw [ek]; exact congrArg some e9))]
      exact hg.block k h3.2 fun e9 => hji (h.apart j i k hj hi ek e9.symm)
  · by_cases a1 : j1 = i <;> by_cases a2 : j2 = i
    · omega
    · subst a1; rw [hV] at e1; rw [hV2 j2 a2] at e2
      exact (fresh j2 h2 a2 k e2 e1).elim
    · subst a2; rw [hV] at e2; rw [hV2 j1 a1] at e1
      exact (fresh j1 h1 a1 k e1 e2).elim
    · rw [hV2 j1 a1] at e1; rw [hV2 j2 a2] at e2
      exact h.apart j1 j2 k h1 h2 e1 e2
  · by_cases hji : j = i
    · subst hji; rw [hV] at ek
      intro e9; cases e9
      exact hvq ek
    · rw [hV2 j hji] at ek
      exact h.oapart j k hj ek
theorem GR.cell {α : Type} {w : World} {e t : TypeId} {sz B n i : Nat} {v : Value} {g : α → List Value} {f : Nat → List α} {V : Nat → Value} (h : GR w e t sz B v n g f V) (hi : i < n) :
    ∃ q c, v = .slice (some ⟨q, 0, none⟩) n c ∧ B ≤ q ∧ q < w.heap.size ∧ w.cell? ⟨q, i, none⟩ = some (V i) := by
  obtain ⟨q, c, h1, h2⟩ := row_cell h.outer (by omega)
  have := h.outer.lt q (by rw [h1]; rfl)
  exact ⟨q, c, h1, this.1, this.2, h2 i _ (valsV_at V hi)⟩
end Go.Proofs.Ytamgldhnfcikbaa
set_option maxRecDepth 100000
namespace Go.Proofs.Ytamgldhnfcikbaa
open Go.RowKit

def accAt (m : List Sta) (i : Nat) : Nat := accS m (i : Nat)
def gN (x : Nat) : List Value := [.int .i64 (x : Nat)]
theorem GR.frozen {α : Type} {w : World} {e t : TypeId} {sz B n q c : Nat} {g : α → List Value} {f : Nat → List α} {V : Nat → Value} (h : GR w e t sz B (.slice (some ⟨q, 0, none⟩) n c) n g f V) : ∃ cs, w.heap[q]? = some (.cells cs t (0, 0)) := by
  rcases h.outer.2 with ⟨h', _⟩ | ⟨g', cap', cur, h', hb, hg, _⟩
  · simp at h'
  · simp only [Value.slice.injEq, Option.some.injEq, Addr.mk.injEq, and_true, true_and] at h'
    obtain ⟨rfl, rfl⟩ := h'
    exact ⟨cur, hg⟩
theorem setMap_old (w : World) (r k : Nat) (es : Array MapEntry) (c : Nat) (h : k ≠ r) : (setMap w r es c).heap[k]? = w.heap[k]? := by
  have : r ≠ k := fun e => h e.symm
  simp [setMap, this]
theorem setMap_big (w : World) (r : Nat) (es : Array MapEntry) (c : Nat) : (setMap w r es c).heap.size = w.heap.size := by simp [setMap]
theorem below_setM {N : Nat} {w w' : World} (h : Below N w w') (r : Nat) (hr : N ≤ r) (es : Array MapEntry) (c : Nat) : Below N w (setMap w' r es c) :=
  h.trans ⟨rfl, rfl, rfl, by simp [setMap], fun k hk => setMap_old w' r k es c (by omega)⟩
def Groups (n : Nat) (f : Nat → Nat) (w : World) (e : Ending) (w' : World) : Prop := ∃ v V, e = .returned v ∧ Hid (GR w' 3 44 1 (w.heap.size + 1) v (keysUp f n).length gN (grp f (keysUp f n) n) V) ∧ Hid (Below w.heap.size w w')
set_option linter.unusedSimpArgs false in
set_option maxHeartbeats 8000000 in
theorem byacc_any (v : Value) (m : List Sta) (w : World) (hv : MachAt w v m) (hn : m.length ≤ 4096) :
    Calls Try.prog 47 #[v] w (Groups m.length (accAt m) w) := by
  have mixed : Try.prog.follows .mixedOrders = true := by kernel_rfl
  obtain ⟨i0, hi0, hz0, hz1, hz2⟩ := info_parts infoI
  have HI := Lib.hid (And.intro hi0 (And.intro hz0 (And.intro hz1 hz2)))
  clear hi0 hz0 hz1 hz2
  obtain ⟨i1, hi1, hz3, hz4, hz5⟩ := info_parts infoRow
  have HJ := Lib.hid (And.intro hi1 (And.intro hz3 (And.intro hz4 hz5)))
  clear hi1 hz3 hz4 hz5
  obtain ⟨b, hb⟩ : ∃ b, w.heap.size = b := ⟨_, rfl⟩
  have HV := Lib.hid (show ∀ wr, Below b w wr → MachAt wr v m from fun wr h => hv.below (by rw [hb]; exact h))
  have HAC := Lib.hid (fun k (hk : k < m.length) => show accAt m k = m[k].acc from accS_at hk)
  obtain ⟨f, hf⟩ : ∃ f, accAt m = f := ⟨_, rfl⟩
  rw [hf] at HAC ⊢
  clear hf
  obtain ⟨av, cv, rfl⟩ := hv.len
  clear hv
  have hmm := run_makeMap (P := Try.prog) 107
  obtain ⟨w1, hw1⟩ : ∃ w1, w.alloc (.map #[] 0) = w1 := ⟨_, rfl⟩
  have HM : Hid (UM w1 b (keysUp f 0)) := Lib.hid ⟨#[], 0, by rw [← hw1, ← hb]; exact heap_alloc_new w _, rfl⟩
  have hs1 : w1.heap.size = b + 1 := by rw [← hw1]; simp [hb]
  have HG : Hid (GR w1 3 44 1 (b + 1) (.slice none 0 0) (keysUp f 0).length gN (grp f (keysUp f 0) 0) fun _ => .slice none 0 0) := Lib.hid (GR.nil (by omega))
  have HB1 : Hid (Below b w w1) := Lib.hid (by rw [← hw1, ← hb]; exact new_one w _)
  have HFIN := Lib.hid (show ∀ w' u V, GR w' 3 44 1 (b + 1) u (keysUp f m.length).length gN (grp f (keysUp f m.length) m.length) V → Below b w w' → Groups m.length f w (.returned u) w' from fun w' u V h h2 => ⟨u, V, rfl, Lib.hid (by rw [hb]; exact h), Lib.hid (by rw [hb]; exact h2)⟩)
  go_enter Try.func47, Try.ntmps47
  go_wp2
  try rw [hb, hw1]
  clear hmm hw1
  go_loopw [3, 5, 6, 7, 11] (fun u _ _ _ z wr => ∃ (k : Nat) (V : Nat → Value), z = .int .i64 k ∧ k ≤ m.length ∧ Hid (UM wr b (keysUp f k)) ∧ Hid (GR wr 3 44 1 (b + 1) u (keysUp f k).length gN (grp f (keysUp f k) k) V) ∧ Hid (Below b w wr)) (fun _ _ _ _ z _ => m.length - (intOf z).toNat)
  case atStart => exact ⟨0, _, rfl, Nat.zero_le _, HM, HG, HB1⟩
  case round =>
    clear HM HG HB1 hs1
    obtain ⟨k, V, rfl, hk, HM, HG, HB⟩ := hrel
    by_cases hlt : k < m.length
    · have hd : decide ((k : Int) < m.length) = true := decide_eq_true (by omega)
      have hkl : (k : Int) < m.length := by omega
      have hbw : Below w.heap.size w wr := by rw [hb]; exact HB.out
      obtain ⟨b1, o1, va, rfl, e0, e1, ha⟩ := (HV.out wr HB.out).at rfl hlt
      rw [← HAC.out k hlt] at e0
      clear e1 ha
      have HKL := Lib.hid (keysUp_len f k)
      have HKD := Lib.hid (keysUp_nodup f k)
      have HKO := Lib.hid (fun h => keysUp_old (f := f) (k := k) h)
      have HKN := Lib.hid (fun h => keysUp_new (f := f) (k := k) h)
      have HKM := Lib.hid (keysUp_mem f k (f k))
      obtain ⟨K, hK⟩ : ∃ K, keysUp f k = K := ⟨_, rfl⟩
      rw [hK] at HM HG HKL HKD HKO HKN HKM
      clear hK
      have hlk := look_u64 HM.out (f k)
      obtain ⟨a0, c0, rfl⟩ := row_form HG.out.outer
      obtain ⟨x, hx⟩ : ∃ x, f k = x := ⟨_, rfl⟩
      have HX := Lib.hid hx
      by_cases hmem : x ∈ K
      · have hfd := noOf_lt hmem
        rw [hx, if_pos hfd, decide_eq_true hfd] at hlk
        rw [hx] at e0
        have HK1 := Lib.hid (show keysUp f (k + 1) = K from HKO.out (by rw [hx]; exact hmem))
        have HGH := Lib.hid (show grp f K (k + 1) (noOf K x) = grp f K k (noOf K x) ++ [k] by have := grp_here (f := f) (K := K) (k := k) (by rw [hx]; exact hmem); rw [hx] at this; exact this)
        have HGE := Lib.hid (show ∀ g, g ≠ noOf K x → grp f K (k + 1) g = grp f K k g from fun g hg => grp_else HKD.out (by rw [hx]; exact hmem) (by rw [hx]; exact hg))
        obtain ⟨no, hno⟩ : ∃ no, noOf K x = no := ⟨_, rfl⟩
        rw [hno] at hlk HGH HGE hfd
        clear hno hmem hx HKM HKO HKN
        have hgl := grp_len f K k no
        obtain ⟨l, hl⟩ : ∃ l, grp f K k no = l := ⟨_, rfl⟩
        have HL := Lib.hid hl
        obtain ⟨q0, cq, hq, hq1, hq2, hq3⟩ := HG.out.cell hfd
        cases hq
        obtain ⟨a3, cp3, hVn⟩ := HG.out.form hfd
        obtain ⟨j, hj⟩ : ∃ j, l.length = j := ⟨_, rfl⟩
        rw [hl, hj] at hVn
        rw [hVn] at hq3
        rw [hl, hj] at hgl
        obtain ⟨nn, hnn⟩ : ∃ nn, K.length = nn := ⟨_, rfl⟩
        have HNN := Lib.hid hnn
        have hkl0 := HKL.out
        rw [hnn] at hfd HG hkl0 ⊢
        have hni : (no : Int) < nn := by omega
        have HROW : Hid (wr.ownsRow (b + 1) 3 1 (.slice a3 j cp3) j (l.flatMap gN)) := Lib.hid (by have := HG.out.own no hfd; rw [hVn, hl, hj] at this; exact this)
        have HRR := HG
        have d0 : wr.cell? ⟨q0, no, none⟩ = some (.slice a3 j cp3) := hq3
        have HVK := Lib.hid hVn
        have hoap := HG.out.oapart no
        have HVL := Lib.hid (show ∀ q, (Value.slice a3 j cp3).ownBlock = some q → q ≠ q0 from fun q e e2 => hoap q hfd (by rw [hVn]; exact e) (by rw [e2]; rfl))
        have HLT := Lib.hid hfd
        have HJ0 := Lib.hid hj
        have HBW := HB
        clear hbw hoap hj hl hnn hVn
        obtain ⟨w6, hw6⟩ : ∃ w6, wr.alloc (.cells #[.int .i64 (k : Int)] 3) = w6 := ⟨_, rfl⟩
        have hba : Below wr.heap.size wr w6 := by rw [← hw6]; exact new_one wr _
        have hxn : w6.heap[wr.heap.size]? = some (.cells #[.int .i64 (k : Int)] 3 (0, 0)) := by rw [← hw6]; exact heap_alloc_new wr _
        have hs6 : w6.heap.size = wr.heap.size + 1 := by rw [← hw6]; simp
        have HR6 := Lib.hid (HRR.out.below hba)
        have HRA := Lib.hid (row_same HROW.out fun q e => hba.block q (HROW.out.lt q e).2)
        obtain ⟨csq, hcq⟩ := HR6.out.frozen
        have HCQ := Lib.hid hcq
        have d6 : w6.cell? ⟨q0, no, none⟩ = some (.slice a3 j cp3) := cell_below hba d0
        have hbw8 : b + 1 ≤ w6.heap.size := HR6.out.big
        have HBA := Lib.hid hba
        clear hcq hba d0
        have hj8 : (j + 1) * 8 ≤ 140737488355328 := by omega
        have hjm : j + 1 ≤ maxLen := by unfold maxLen; omega
        go_upto_region 11 with fail
        clear hlk e0
        go_wp2_with (at_builtin; refine wpList_append_lies _ rfl _ _ 44 rfl (b + 1) 3 i0 (.int .i64 0) 1 8 Try.underlying44 HI.out.1 HI.out.2.1 HI.out.2.2.1 HI.out.2.2.2 rfl (by decide) (.slice a3 j cp3) j (l.flatMap gN) rfl HRA.out ⟨wr.heap.size, 0, none⟩ 1 1 [.int .i64 (k : Int)] rfl rfl (news_in (cs := #[.int .i64 (k : Int)]) hxn) (by simp [Value.oneCell']) (by decide) hjm hj8 hbw8 (wr.heap.size + 1) hs6 ?_; intro g9 cap2 w8 h2 h3 h4 h5; have HP2 := Lib.hid h2; have HP3 := Lib.hid h3; have HP4 := Lib.hid h4; have d8 : w8.cell? ⟨q0, no, none⟩ = some (.slice a3 j cp3) := (World.cell?_of_block (h3.block q0 (cell_lt d6) (fun e => HVL.out q0 e.symm rfl))).trans d6; have hfz : w8.frozen? ⟨q0, no, none⟩ = false := frozen_row (j := no) ((h3.block q0 (cell_lt d6) (fun e => HVL.out q0 e.symm rfl)).trans HCQ.out); clear h2 h3 h4 h5)
        have hv8 : (V no).ownBlock = (Value.slice (some ⟨g9, 0, none⟩) (j + 1) cap2).ownBlock ∨ ∃ q, (Value.slice (some ⟨g9, 0, none⟩) (j + 1) cap2).ownBlock = some q ∧ w6.heap.size ≤ q := by
          rw [HVK.out]
          rcases HP4.out with h4 | h4
          · exact .inl h4
          · exact .inr ⟨g9, rfl, by omega⟩
        have HRP := Lib.hid (HR6.out.push (f' := grp f K (k + 1)) (V' := fun i => if i = no then .slice (some ⟨g9, 0, none⟩) (j + 1) cap2 else V i) (x := k) HLT.out (by rw [HVK.out]; exact HP3.out) (by rw [HL.out, HJ0.out]; exact HP2.out) hv8 (by simp) (fun i hi => by simp [hi]) HGH.out HGE.out)
        have hB8 : Below b w w8 := (HBW.out.trans (HBA.out.mono (by have := HRR.out.big; omega))).grown HP3.out (by omega) (fun q e => by have := (HROW.out.lt q e).1; omega)
        have HB8 := Lib.hid (hB8.setCell (p := ⟨q0, no, none⟩) (by show b ≤ q0; omega) (.slice (some ⟨g9, 0, none⟩) (j + 1) cap2))
        have HM8 : Hid (UM (w8.setCell ⟨q0, no, none⟩ (.slice (some ⟨g9, 0, none⟩) (j + 1) cap2)) b K) := Lib.hid (um_other HM.out (by
          rw [Below.heap_setCell _ _ _ _ (show b ≠ q0 by omega), HP3.out.block b (by omega) (fun e => by have := (HROW.out.lt b e.symm).1; omega)]
          exact HBA.out.block b (by have := HRR.out.big; omega)))

        exact ⟨⟨k + 1, _, num_succ k, by omega, Lib.hid (by rw [HK1.out]; exact HM8.out), Lib.hid (by rw [HK1.out, HNN.out]; exact HRP.out), HB8⟩, by simp only [intOf]; omega⟩
      · have hfd : ¬ noOf K x < K.length := by rw [noOf_far hmem]; omega
        rw [hx, if_neg hfd, decide_eq_false hfd] at hlk
        rw [hx] at e0
        have HK1 := Lib.hid (show keysUp f (k + 1) = K ++ [x] from by rw [HKN.out (by rw [hx]; exact hmem), hx])
        have HK2D : Hid ((K ++ [x]).Nodup) := Lib.hid (by have := keysUp_nodup f (k + 1); rw [HK1.out] at this; exact this)
        have hin2 : x ∈ K ++ [x] := by simp
        have hno2 := noOf_snoc hmem
        have HGH := Lib.hid (show grp f (K ++ [x]) (k + 1) K.length = grp f (K ++ [x]) k K.length ++ [k] by have := grp_here (f := f) (K := K ++ [x]) (k := k) (by rw [hx]; exact hin2); rw [hx, hno2] at this; exact this)
        have HGE := Lib.hid (show ∀ g, g ≠ K.length → grp f (K ++ [x]) (k + 1) g = grp f (K ++ [x]) k g from fun g hg => grp_else HK2D.out (by rw [hx]; exact hin2) (by rw [hx, hno2]; exact hg))
        have HG0 := Lib.hid (show grp f (K ++ [x]) k K.length = [] from grp_none fun i hi e => hmem (hx ▸ HKM.out.2 ⟨i, hi, e.trans hx.symm⟩))
        have HGS := Lib.hid (show ∀ i, i < K.length → grp f (K ++ [x]) k i = grp f K k i from fun i hi => grp_snoc (by omega))
        obtain ⟨es2, c2, hput, hum⟩ := put_u64 HM.out hfd
        have HUM := Lib.hid hum
        have HLK2 := Lib.hid (show (K ++ [x]).length = K.length + 1 by simp)
        obtain ⟨K2, hK2⟩ : ∃ K2, K ++ [x] = K2 := ⟨_, rfl⟩
        rw [hK2] at HK1 HGH HGE HG0 HGS HUM HLK2
        clear hum hK2 HK2D hin2 hno2 hfd hmem hx HKM HKO HKN
        have hkl0 := HKL.out
        obtain ⟨nn, hnn⟩ : ∃ nn, K.length = nn := ⟨_, rfl⟩
        rw [hnn] at HG hput HGH HGE HG0 HGS HLK2 hkl0 ⊢
        obtain ⟨w4, hw4⟩ : ∃ w4, setMap wr b es2 c2 = w4 := ⟨_, rfl⟩
        rw [hw4] at hput HUM
        have HG4 := Lib.hid (HG.out.keep (w' := w4) (by rw [← hw4, setMap_big]; exact Nat.le_refl _) fun q hq hB => by rw [← hw4]; exact setMap_old _ _ _ _ _ (by omega))
        have HB4 := Lib.hid (show Below b w w4 by rw [← hw4]; exact below_setM HB.out b (Nat.le_refl b) _ _)
        clear hw4 hnn
        obtain ⟨w5, hw5⟩ : ∃ w5, w4.alloc (.cells #[.slice none 0 0] 44) = w5 := ⟨_, rfl⟩
        have hb5 : Below w4.heap.size w4 w5 := by rw [← hw5]; exact new_one w4 _
        have hx5 : w5.heap[w4.heap.size]? = some (.cells #[.slice none 0 0] 44 (0, 0)) := by rw [← hw5]; exact heap_alloc_new w4 _
        have hs5 : w5.heap.size = w4.heap.size + 1 := by rw [← hw5]; simp
        have HG5 := Lib.hid (HG4.out.below hb5)
        have HB5 := Lib.hid (HB4.out.trans (hb5.mono (by have := HG4.out.big; omega)))
        have HM5 := Lib.hid (um_other HUM.out (hb5.block b (by have := HG4.out.big; omega)))
        have hbw5 : b + 1 ≤ w5.heap.size := HG5.out.big
        have hn24 : (nn + 1) * 24 ≤ 140737488355328 := by omega
        have hnm : nn + 1 ≤ maxLen := by unfold maxLen; omega
        clear hb5 HB HM HUM HG4 HB4 HG hbw
        go_upto_region 11 with (at_builtin; refine wpList_append_lies _ rfl _ _ 53 rfl (b + 1) 44 i1 (.slice none 0 0) 1 24 Try.underlying53 HJ.out.1 HJ.out.2.1 HJ.out.2.2.1 HJ.out.2.2.2 rfl (by decide) (.slice a0 nn c0) nn (valsV nn V) rfl HG5.out.outer ⟨w4.heap.size, 0, none⟩ 1 1 [.slice none 0 0] rfl rfl (news_in (cs := #[.slice none 0 0]) hx5) (by simp [Value.oneCell']) (by decide) hnm hn24 hbw5 (w4.heap.size + 1) hs5 ?_; intro g0 cap0 w7 h2 h3 h4 h5; have HQ2 := Lib.hid h2; have HQ3 := Lib.hid h3; have HQ4 := Lib.hid h4; clear h2 h3 h4 h5)
        clear hlk hput e0 hw5 hx5
        have hv7 : (Value.slice a0 nn c0).ownBlock = (Value.slice (some ⟨g0, 0, none⟩) (nn + 1) cap0).ownBlock ∨ ∃ q, (Value.slice (some ⟨g0, 0, none⟩) (nn + 1) cap0).ownBlock = some q ∧ w5.heap.size ≤ q := by
          rcases HQ4.out with h4 | h4
          · exact .inl h4
          · exact .inr ⟨g0, rfl, by omega⟩
        have HG7 := Lib.hid (HG5.out.grow (f' := grp f K2 k) (V' := fun i => if i = nn then .slice none 0 0 else V i) HQ3.out HQ2.out hv7 (fun i hi => if_neg (by omega)) (if_pos rfl) HGS.out HG0.out)
        have HB7 : Hid (Below b w w7) := Lib.hid (HB5.out.grown HQ3.out (by omega) (fun q e => by have := (HG5.out.outer.lt q e).1; omega))
        have HM7 : Hid (UM w7 b K2) := Lib.hid (um_other HM5.out (HQ3.out.block b (by omega) (fun e => by have := (HG5.out.outer.lt b e.symm).1; omega)))
        obtain ⟨V7, hV7⟩ : ∃ V7, (fun i => if i = nn then Value.slice none 0 0 else V i) = V7 := ⟨_, rfl⟩
        rw [hV7] at HG7
        clear hv7 hV7 HQ2 HQ3 HQ4 HG5 HB5 HM5 hs5 hbw5 hn24 hnm
        generalize hn2 : nn + 1 = n2 at *
        have HN2 := Lib.hid hn2
        have hfd : nn < n2 := by omega
        have hgl := grp_len f K2 k nn
        obtain ⟨l, hl⟩ : ∃ l, grp f K2 k nn = l := ⟨_, rfl⟩
        have HL := Lib.hid hl
        obtain ⟨q0, cq, hq, hq1, hq2, hq3⟩ := HG7.out.cell hfd
        simp only [Value.slice.injEq, Option.some.injEq, Addr.mk.injEq, and_true, true_and] at hq
        obtain ⟨hqa, rfl⟩ := hq
        subst hqa
        obtain ⟨a3, cp3, hVn⟩ := HG7.out.form hfd
        obtain ⟨j, hj⟩ : ∃ j, l.length = j := ⟨_, rfl⟩
        rw [hl, hj] at hVn
        rw [hVn] at hq3
        rw [hl, hj] at hgl
        have hni : (nn : Int) < n2 := by omega
        have HROW : Hid (w7.ownsRow (b + 1) 3 1 (.slice a3 j cp3) j (l.flatMap gN)) := Lib.hid (by have := HG7.out.own nn hfd; rw [hVn, hl, hj] at this; exact this)
        have HRR := HG7
        have d0 : w7.cell? ⟨g0, nn, none⟩ = some (.slice a3 j cp3) := hq3
        have HVK := Lib.hid hVn
        have hoap := HG7.out.oapart nn
        have HVL := Lib.hid (show ∀ q, (Value.slice a3 j cp3).ownBlock = some q → q ≠ g0 from fun q e e2 => hoap q hfd (by rw [hVn]; exact e) (by rw [e2]; rfl))
        have HLT := Lib.hid hfd
        have HJ0 := Lib.hid hj
        have HBW := HB7
        clear hoap hj hl hVn hn2
        obtain ⟨w6, hw6⟩ : ∃ w6, w7.alloc (.cells #[.int .i64 (k : Int)] 3) = w6 := ⟨_, rfl⟩
        have hba : Below w7.heap.size w7 w6 := by rw [← hw6]; exact new_one w7 _
        have hxn : w6.heap[w7.heap.size]? = some (.cells #[.int .i64 (k : Int)] 3 (0, 0)) := by rw [← hw6]; exact heap_alloc_new w7 _
        have hs6 : w6.heap.size = w7.heap.size + 1 := by rw [← hw6]; simp
        have HR6 := Lib.hid (HRR.out.below hba)
        have HRA := Lib.hid (row_same HROW.out fun q e => hba.block q (HROW.out.lt q e).2)
        obtain ⟨csq, hcq⟩ := HR6.out.frozen
        have HCQ := Lib.hid hcq
        have d6 : w6.cell? ⟨g0, nn, none⟩ = some (.slice a3 j cp3) := cell_below hba d0
        have hbw8 : b + 1 ≤ w6.heap.size := HR6.out.big
        have HBA := Lib.hid hba
        clear hcq hba d0
        have hj8 : (j + 1) * 8 ≤ 140737488355328 := by omega
        have hjm : j + 1 ≤ maxLen := by unfold maxLen; omega
        go_wp2_with (at_builtin; refine wpList_append_lies _ rfl _ _ 44 rfl (b + 1) 3 i0 (.int .i64 0) 1 8 Try.underlying44 HI.out.1 HI.out.2.1 HI.out.2.2.1 HI.out.2.2.2 rfl (by decide) (.slice a3 j cp3) j (l.flatMap gN) rfl HRA.out ⟨w7.heap.size, 0, none⟩ 1 1 [.int .i64 (k : Int)] rfl rfl (news_in (cs := #[.int .i64 (k : Int)]) hxn) (by simp [Value.oneCell']) (by decide) hjm hj8 hbw8 (w7.heap.size + 1) hs6 ?_; intro g9 cap2 w8 h2 h3 h4 h5; have HP2 := Lib.hid h2; have HP3 := Lib.hid h3; have HP4 := Lib.hid h4; have d8 : w8.cell? ⟨g0, nn, none⟩ = some (.slice a3 j cp3) := (World.cell?_of_block (h3.block g0 (cell_lt d6) (fun e => HVL.out g0 e.symm rfl))).trans d6; have hfz : w8.frozen? ⟨g0, nn, none⟩ = false := frozen_row (j := nn) ((h3.block g0 (cell_lt d6) (fun e => HVL.out g0 e.symm rfl)).trans HCQ.out); clear h2 h3 h4 h5)
        have hv8 : (V7 nn).ownBlock = (Value.slice (some ⟨g9, 0, none⟩) (j + 1) cap2).ownBlock ∨ ∃ q, (Value.slice (some ⟨g9, 0, none⟩) (j + 1) cap2).ownBlock = some q ∧ w6.heap.size ≤ q := by
          rw [HVK.out]
          rcases HP4.out with h4 | h4
          · exact .inl h4
          · exact .inr ⟨g9, rfl, by omega⟩
        have HRP := Lib.hid (HR6.out.push (f' := grp f K2 (k + 1)) (V' := fun i => if i = nn then .slice (some ⟨g9, 0, none⟩) (j + 1) cap2 else V7 i) (x := k) HLT.out (by rw [HVK.out]; exact HP3.out) (by rw [HL.out, HJ0.out]; exact HP2.out) hv8 (by simp) (fun i hi => by simp [hi]) HGH.out HGE.out)
        have hB8 : Below b w w8 := (HBW.out.trans (HBA.out.mono (by have := HRR.out.big; omega))).grown HP3.out (by omega) (fun q e => by have := (HROW.out.lt q e).1; omega)
        have HB8 := Lib.hid (hB8.setCell (p := ⟨g0, nn, none⟩) (by show b ≤ g0; omega) (.slice (some ⟨g9, 0, none⟩) (j + 1) cap2))
        have HM8 : Hid (UM (w8.setCell ⟨g0, nn, none⟩ (.slice (some ⟨g9, 0, none⟩) (j + 1) cap2)) b K2) := Lib.hid (um_other HM7.out (by
          rw [Below.heap_setCell _ _ _ _ (show b ≠ g0 by omega), HP3.out.block b (by omega) (fun e => by have := (HROW.out.lt b e.symm).1; omega)]
          exact HBA.out.block b (by have := HRR.out.big; omega)))
        exact ⟨⟨k + 1, _, num_succ k, by omega, Lib.hid (by rw [HK1.out]; exact HM8.out), Lib.hid (by rw [HK1.out, HLK2.out]; exact HRP.out), HB8⟩, by simp only [intOf]; omega⟩
    · obtain rfl : k = m.length := by omega
      have hd : decide ((m.length : Int) < m.length) = false := by simp
      have HFI := Lib.hid (HFIN.out wr u3 V HG.out HB.out)
      go_wp2
      exact bodyPost_ret (v := u3) (by simp [results, Try.results47, go_sem, *]) rfl HFI.out
end Go.Proofs.Ytamgldhnfcikbaa
