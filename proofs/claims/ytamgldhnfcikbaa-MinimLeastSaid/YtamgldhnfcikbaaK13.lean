/- Texts that a proof rests on: The contracts of minim.waysOnward and minim.turned. | The contract of minim.turned. | The contract of the function within minim.reached. | The contract of minim.reached. | The contract of minim.Useful. | Mathematics: the runs of bytes that go to the same place; those that go somewhere are the arcs. -/
import Derived.Test.YtamgldhnfcikbaaK12
set_option maxRecDepth 100000
namespace Go.Proofs.Ytamgldhnfcikbaa
open List (getElem_toArray getElem_cons_succ getElem_cons_zero setIfInBounds_toArray set_cons_zero set_cons_succ)
open Go.RowKit

theorem infoRow : (Try.prog.info? 44).map (fun i => (i.zero, i.size, i.bytes)) = some (some (.slice none 0 0), 1, 24) := by kernel_rfl
def gI (x : Int) : List Value := [.int .i64 x]
theorem gI_map (l : List Int) : l.flatMap gI = l.map (Value.int .i64) := by
  induction l with
  | nil => rfl
  | cons x l ih => rw [List.flatMap_cons, ih]; rfl
def destsOf (m : List Sta) (i : Nat) : List Int := ((m[i]?).map fun s => s.arcs.map Arc3.dest).getD []
theorem destsOf_at {m : List Sta} {i : Nat} (h : i < m.length) : destsOf m i = m[i].arcs.map Arc3.dest := by
  unfold destsOf; rw [List.getElem?_eq_getElem h]; rfl
def waysUp (D : Nat → List Int) (k j : Nat) (i : Nat) : List Int := if i < k then D i else if i = k then (D k).take j else []
theorem waysUp_zero (D : Nat → List Int) : waysUp D 0 0 = fun _ => [] := by
  funext i; unfold waysUp; simp
theorem waysUp_next (D : Nat → List Int) (k : Nat) : waysUp D k (D k).length = waysUp D (k + 1) 0 := by
  funext i; unfold waysUp
  by_cases h : i < k
  · rw [if_pos h, if_pos (by omega)]
  · rw [if_neg h]
    by_cases e : i = k
    · subst e; rw [if_pos rfl, if_pos (by omega), List.take_length]
    · rw [if_neg e, if_neg (by omega), List.take_zero]; simp
theorem waysUp_at (D : Nat → List Int) (k j : Nat) : waysUp D k j k = (D k).take j := by unfold waysUp; rw [if_neg (by omega), if_pos rfl]
theorem waysUp_step (D : Nat → List Int) (k j : Nat) (h : j < (D k).length) : waysUp D k (j + 1) k = waysUp D k j k ++ [(D k)[j]] := by
  rw [waysUp_at, waysUp_at, List.take_succ_eq_append_getElem h]
theorem waysUp_other (D : Nat → List Int) (k j i : Nat) (h : i ≠ k) : waysUp D k (j + 1) i = waysUp D k j i := by
  unfold waysUp; rw [if_neg h, if_neg h]
def Ways (n : Nat) (D : Nat → List Int) (w : World) (e : Ending) (w' : World) : Prop := ∃ b V, e = .returned (.slice (some ⟨b, 0, none⟩) n n) ∧ Hid (RR w' 3 44 1 b (b + 1) n gI D V) ∧ w.heap.size ≤ b ∧ Hid (Below w.heap.size w w')
set_option linter.unusedSimpArgs false in
set_option maxHeartbeats 8000000 in
theorem ways_any (v : Value) (m : List Sta) (w : World) (hv : MachAt w v m) (hn : m.length ≤ 4096) (hl : ∀ s ∈ m, s.arcs.length < 1000000000) :
    Calls Try.prog 31 #[v] w (Ways m.length (destsOf m) w) := by
  have mixed : Try.prog.follows .mixedOrders = true := by kernel_rfl
  obtain ⟨i0, hi0, hz0, hz1, hz2⟩ := info_parts infoI
  have HI := Lib.hid (And.intro hi0 (And.intro hz0 (And.intro hz1 hz2)))
  clear hi0 hz0 hz1 hz2
  obtain ⟨b, hb⟩ : ∃ b, w.heap.size = b := ⟨_, rfl⟩
  have HV := Lib.hid (show ∀ wr, Below b w wr → MachAt wr v m from fun wr h => hv.below (by rw [hb]; exact h))
  obtain ⟨av, cv, rfl⟩ := hv.len
  have HL := Lib.hid hl
  clear hv hl
  have hmk := make_slices Try.underlying53 infoRow (c := (m.length : Int)) (n := m.length) rfl (by omega)
  have HB0 : Hid (Below b w (w.alloc (.cells (Slices m.length fun _ => .slice none 0 0) 44))) := Lib.hid (by rw [← hb]; exact new_one w _)
  have HR0 : Hid (RR (w.alloc (.cells (Slices m.length fun _ => .slice none 0 0) 44)) 3 44 1 b (b + 1) m.length gI (waysUp (destsOf m) 0 0) fun _ => .slice none 0 0) := Lib.hid (by rw [← hb, waysUp_zero]; exact RR.new w _ _ _ _ _)
  have HFIN := Lib.hid (show ∀ w' V, RR w' 3 44 1 b (b + 1) m.length gI (waysUp (destsOf m) m.length 0) V → Below b w w' → Ways m.length (destsOf m) w (.returned (.slice (some ⟨b, 0, none⟩) m.length m.length)) w' from fun w' V h h2 => ⟨b, V, rfl, Lib.hid ⟨h.blk, fun i hi => by
    have := h.own i hi
    unfold waysUp at this
    rw [if_pos hi] at this; exact this, h.apart, h.far, h.big⟩, by omega, Lib.hid (by rw [hb]; exact h2)⟩)
  go_enter Try.func31, Try.ntmps31
  go_wp2
  clear hmk
  go_loopw [12] (fun z wr => ∃ (k : Nat) (V : Nat → Value), z = .int .i64 k ∧ k ≤ m.length ∧ Hid (RR wr 3 44 1 b (b + 1) m.length gI (waysUp (destsOf m) k 0) V) ∧ Hid (Below b w wr)) (fun z _ => m.length - (intOf z).toNat)
  case atStart => exact ⟨0, _, rfl, Nat.zero_le _, HR0, HB0⟩
  case round =>
    clear HB0 HR0
    obtain ⟨k, V0, rfl, hk, HR0, HB0⟩ := hrel
    by_cases hlt : k < m.length
    · have hd : decide ((k : Int) < m.length) = true := decide_eq_true (by omega)
      have hkl : (k : Int) < m.length := by omega
      have hbw : Below w.heap.size w wr := by rw [hb]; exact HB0.out
      obtain ⟨b1, o1, va, rfl, e0, e1, ha⟩ := (HV.out w (Below.refl _ _)).at rfl hlt
      obtain ⟨aa, ca, rfl⟩ := ha.len
      have HDK := Lib.hid (destsOf_at hlt)
      have HLK := Lib.hid (HL.out m[k] (List.getElem_mem hlt))
      have HA := Lib.hid (show ∀ ws, Below b w ws → ArcsAt ws (.slice aa m[k].arcs.length ca) m[k].arcs from fun ws h => ha.below (by rw [hb]; exact h))
      replace e0 := cell_below hbw e0
      replace e1 := cell_below hbw e1
      clear ha hbw
      generalize m[k].arcs = l at *
      go_wp2
      clear e0 e1
      go_loopw [21] (fun z ws => ∃ (j : Nat) (V : Nat → Value), z = .int .i64 j ∧ j ≤ l.length ∧ Hid (RR ws 3 44 1 b (b + 1) m.length gI (waysUp (destsOf m) k j) V) ∧ Hid (Below b w ws)) (fun z _ => l.length - (intOf z).toNat)
      case atStart => exact ⟨0, V0, rfl, Nat.zero_le _, HR0, HB0⟩
      case round =>
        clear HR0 HB0
        obtain ⟨j, V, rfl, hj, HRX, HBW⟩ := hrel
        by_cases hlj : j < l.length
        · have hd2 : decide ((j : Int) < l.length) = true := decide_eq_true (by omega)
          have hjl : (j : Int) < l.length := by omega
          have hlk := HLK.out
          obtain ⟨g1, u1, rfl, a0, a1, a2⟩ := (HA.out wr HBW.out).at rfl hlj
          have HST := Lib.hid (show waysUp (destsOf m) k (j + 1) k = waysUp (destsOf m) k j k ++ [l[j].dest] from by
            rw [waysUp_step _ _ _ (by rw [HDK.out, List.length_map]; exact hlj)]
            congr 1
            simp [HDK.out])
          have hln : (waysUp (destsOf m) k j k).length = j := by rw [waysUp_at, List.length_take, HDK.out, List.length_map]; omega
          generalize l[j] = a at *
          obtain ⟨a3, cp3, hV⟩ := HRX.out.form hlt
          rw [hln] at hV
          obtain ⟨B9, hB9⟩ : ∃ B9, wr.heap.size = B9 := ⟨_, rfl⟩
          have hbwr := HRX.out.big
          obtain ⟨w5, hw5⟩ : ∃ w5, wr.alloc (.cells #[.int .u8 a.lo, .int .u8 a.hi, .int .i64 a.dest] 38) = w5 := ⟨_, rfl⟩
          have hb5 : Below wr.heap.size wr w5 := by rw [← hw5]; exact new_one wr _
          have hx5 : w5.heap[B9]? = some (.cells #[.int .u8 a.lo, .int .u8 a.hi, .int .i64 a.dest] 38 (0, 0)) := by rw [← hw5, ← hB9]; exact heap_alloc_new wr _
          have hs5 : w5.heap.size = B9 + 1 := by rw [← hw5]; simp [hB9]
          have HRR := Lib.hid (HRX.out.below hb5)
          have HB5 : Hid (Below b w w5) := Lib.hid (HBW.out.trans (hb5.mono (by omega)))
          have HROW : Hid (w5.ownsRow (b + 1) 3 1 (.slice a3 j cp3) j ((waysUp (destsOf m) k j k).flatMap gI)) := Lib.hid (by have := HRR.out.own k hlt; rw [hV, hln] at this; exact this)
          have d0 : w5.drew.cell? ⟨b, k, none⟩ = some (.slice a3 j cp3) := by have := HRR.out.cell hlt; rw [hV] at this; exact this
          have d1 : w5.drew.cell? ⟨B9, 2, none⟩ = some (.int .i64 a.dest) := (cell_of_row w5 B9 2 _ _ _ hx5).trans rfl
          have HVK := Lib.hid hV
          have HVL := Lib.hid (show ∀ q, (Value.slice a3 j cp3).ownBlock = some q → q < B9 from fun q e => by have := ((HRX.out.own k hlt).lt q (by rw [hV]; exact e)).2; omega)
          have HS5 := Lib.hid hs5
          clear hx5 hb5 HRX HBW hV hs5
          go_upto_region 8 with fail
          clear hw5 a0 a1 a2
          generalize a.dest = x at *
          refine region_goes 11 12 rfl (fun W => W.cell? ⟨b, k, none⟩ = some (.slice a3 j cp3) ∧ W.cell? ⟨B9, 2, none⟩ = some (.int .i64 x)) mixed ⟨d0, d1⟩ (fun hHeld => ?_)
          clear d0 d1
          refine goes_take (i := 0) (v := ?gv9) rfl (by kernel_rfl) (by kernel_rfl) (by kernel_rfl) (by kernel_rfl) (fun _ _ _ h => h) (Or.inl ⟨by rfl, ?gy9⟩) (by assumption) ?gr9
          case gy9 => (intro W9 hW9; obtain ⟨k0, k1⟩ := hW9; first | (go_simp; done) | (go_simp; with_reducible rfl))
          simp only [Act.put, getElem_toArray, getElem_cons_succ, getElem_cons_zero, setIfInBounds_toArray, set_cons_zero, set_cons_succ]
          refine goes_take (i := 1) (v := ?gv10) rfl (by kernel_rfl) (by kernel_rfl) (by kernel_rfl) (by kernel_rfl) (fun _ _ _ h => h) (Or.inl ⟨by rfl, ?gy10⟩) (by assumption) ?gr10
          case gy10 => (intro W9 hW9; obtain ⟨k0, k1⟩ := hW9; first | (go_simp; done) | (go_simp; with_reducible rfl))
          simp only [Act.put, getElem_toArray, getElem_cons_succ, getElem_cons_zero, setIfInBounds_toArray, set_cons_zero, set_cons_succ]
          refine goes_take (i := 2) (v := ?gv11) rfl (by kernel_rfl) (by kernel_rfl) (by kernel_rfl) (by kernel_rfl) (fun _ _ _ h => h) (Or.inl ⟨by rfl, ?gy11⟩) (by assumption) ?gr11
          case gy11 => (intro W9 hW9; obtain ⟨k0, k1⟩ := hW9; first | (go_simp; done) | (go_simp; with_reducible rfl))
          simp only [Act.put, getElem_toArray, getElem_cons_succ, getElem_cons_zero, setIfInBounds_toArray, set_cons_zero, set_cons_succ]
          refine goes_take (i := 3) (v := ?gv12) rfl (by kernel_rfl) (by kernel_rfl) (by kernel_rfl) (by kernel_rfl) (fun _ _ _ h => h) (Or.inl ⟨by rfl, ?gy12⟩) (by assumption) ?gr12
          case gy12 => (intro W9 hW9; obtain ⟨k0, k1⟩ := hW9; first | (go_simp; done) | (go_simp; with_reducible rfl))
          simp only [Act.put, getElem_toArray, getElem_cons_succ, getElem_cons_zero, setIfInBounds_toArray, set_cons_zero, set_cons_succ]
          refine goes_take (i := 4) (v := ?gv13) rfl (by kernel_rfl) (by kernel_rfl) (by kernel_rfl) (by kernel_rfl) (fun _ _ _ h => h) (Or.inl ⟨by rfl, ?gy13⟩) (by assumption) ?gr13
          case gy13 => (intro W9 hW9; obtain ⟨k0, k1⟩ := hW9; first | (go_simp; done) | (go_simp; with_reducible rfl))
          simp only [Act.put, getElem_toArray, getElem_cons_succ, getElem_cons_zero, setIfInBounds_toArray, set_cons_zero, set_cons_succ]
          refine goes_take (i := 5) (v := ?gv14) rfl (by kernel_rfl) (by kernel_rfl) (by kernel_rfl) (by kernel_rfl) (fun _ _ _ h => h) (Or.inl ⟨by rfl, ?gy14⟩) (by assumption) ?gr14
          case gy14 => (intro W9 hW9; obtain ⟨k0, k1⟩ := hW9; first | (go_simp; done) | (go_simp; with_reducible rfl))
          simp only [Act.put, getElem_toArray, getElem_cons_succ, getElem_cons_zero, setIfInBounds_toArray, set_cons_zero, set_cons_succ]
          refine goes_take (i := 6) (v := ?gv15) rfl (by kernel_rfl) (by kernel_rfl) (by kernel_rfl) (by kernel_rfl) (fun _ _ _ h => h) (Or.inl ⟨by rfl, ?gy15⟩) (by assumption) ?gr15
          case gy15 => (intro W9 hW9; obtain ⟨k0, k1⟩ := hW9; first | (go_simp; done) | (go_simp; with_reducible rfl))
          simp only [Act.put, getElem_toArray, getElem_cons_succ, getElem_cons_zero, setIfInBounds_toArray, set_cons_zero, set_cons_succ]
          refine goes_take (i := 7) (v := ?gv16) rfl (by kernel_rfl) (by kernel_rfl) (by kernel_rfl) (by kernel_rfl) (fun _ _ _ h => h) (Or.inl ⟨by rfl, ?gy16⟩) (by assumption) ?gr16
          case gy16 => (intro W9 hW9; obtain ⟨k0, k1⟩ := hW9; first | (go_simp; done) | (go_simp; with_reducible rfl))
          simp only [Act.put, getElem_toArray, getElem_cons_succ, getElem_cons_zero, setIfInBounds_toArray, set_cons_zero, set_cons_succ]
          refine goes_one (i := 8) (by kernel_rfl) rfl (fun K9 hK9 => ?_)
          go_simp
          obtain ⟨w6, hw6⟩ : ∃ w6, (w5.alloc (.cells #[.int .i64 x] 3)).drew = w6 := ⟨_, rfl⟩
          have hba : Below w5.heap.size w5 w6 := by
            have h := new_one w5 (.cells #[.int .i64 x] 3)
            rw [← hw6]; exact ⟨h.os, h.tape, h.output, h.size, h.block⟩
          have hbd : Below w5.drew.heap.size w5.drew w6 := ⟨hba.os, hba.tape, hba.output, hba.size, hba.block⟩
          have hxn : w6.heap[w5.heap.size]? = some (.cells #[.int .i64 x] 3 (0, 0)) := by rw [← hw6]; exact heap_alloc_new w5 _
          have hs6 : w6.heap.size = w5.heap.size + 1 := by rw [← hw6]; show (w5.alloc _).heap.size = _; simp
          have HR6 := Lib.hid (HRR.out.below hba)
          have HRA := Lib.hid (row_same HROW.out fun q e => hba.block q (HROW.out.lt q e).2)
          obtain ⟨k0, k1⟩ := hHeld
          have hk6 := (And.intro (cell_below hbd k0) (cell_below hbd k1))
          try rw [hw6]
          refine hK9.out _ _ (fun _ => hk6) (fun hHeld => ?_)
          have hHeld := hHeld (by decide)
          clear hK9 K9 k0 k1 hk6 hw6 hbd
          refine goes_one (i := 9) (by kernel_rfl) rfl (fun K9 hK9 => ?_)
          rw [if_pos (by rfl)]
          refine wp_append_lies _ _ _ 44 rfl (b + 1) 3 i0 (.int .i64 0) 1 8 Try.underlying44 HI.out.1 HI.out.2.1 HI.out.2.2.1 HI.out.2.2.2 rfl (by decide) (.slice a3 j cp3) j ((waysUp (destsOf m) k j k).flatMap gI) rfl HRA.out ⟨w5.heap.size, 0, none⟩ 1 1 [.int .i64 x] rfl rfl (news_in (cs := #[.int .i64 x]) hxn) (by simp [Value.oneCell']) (by omega) (by unfold maxLen; omega) (by omega) (by have := HR6.out.big; omega) (w5.heap.size + 1) hs6 ?_
          intro g9 cap2 w8 h2 h3 h4 h5
          have hs5 := HS5.out
          have hv8 : (V k).ownBlock = (Value.slice (some ⟨g9, 0, none⟩) (j + 1) cap2).ownBlock ∨ ∃ q, (Value.slice (some ⟨g9, 0, none⟩) (j + 1) cap2).ownBlock = some q ∧ w6.heap.size ≤ q := by
            rw [HVK.out]
            rcases h4 with h4 | h4
            · exact .inl h4
            · exact .inr ⟨g9, rfl, by omega⟩
          have HRP := Lib.hid (HR6.out.push (f' := waysUp (destsOf m) k (j + 1)) (V' := fun i => if i = k then .slice (some ⟨g9, 0, none⟩) (j + 1) cap2 else V i) (x := x) hlt (by rw [HVK.out]; exact h3) (by rw [hln]; exact h2) hv8 (by simp) (fun i hi => by simp [hi]) HST.out (fun i hi => waysUp_other _ _ _ _ hi))
          have hB8 : Below b w w8 := (HB5.out.trans (hba.mono (by omega))).grown h3 (by omega) (fun q e => by have := (HROW.out.lt q e).1; omega)
          have HB8 := Lib.hid (hB8.setCell (p := ⟨b, k, none⟩) (Nat.le_refl b) (.slice (some ⟨g9, 0, none⟩) (j + 1) cap2))
          have hfz : w8.frozen? ⟨b, k, none⟩ = false := by
            have h9 : w8.heap[b]? = w6.heap[b]? := h3.block b HR6.out.lt (fun e => by have := (HROW.out.lt b e.symm).1; omega)
            exact frozen_row (j := k) (h9.trans HR6.out.blk)
          obtain ⟨k0, k1⟩ := hHeld
          have hk8 : ∀ {a : Addr} {v : Value}, w6.cell? a = some v → some a.block ≠ (Value.slice a3 j cp3).ownBlock → w8.cell? a = some v := fun hc hn => (World.cell?_of_block (h3.block _ (cell_lt hc) hn)).trans hc
          refine hK9.out _ _ (fun _ => ⟨hk8 k0 (fun e => by have h := (HROW.out.lt _ e.symm).1; exact absurd h (by show ¬ b + 1 ≤ b; omega)), hk8 k1 (fun e => by have h := HVL.out _ e.symm; exact absurd h (Nat.lt_irrefl _))⟩) (fun hHeld => ?_)
          have hHeld := hHeld (by decide)
          clear hK9 K9 hk8 h2 h3 h4 h5 hxn hba k0 k1
          refine goes_one (i := 10) (by kernel_rfl) rfl (fun K9 hK9 => ?_)
          go_simp
          refine hK9.out _ _ (fun _ => hHeld) (fun hHeld => ?_)
          have hHeld := hHeld (by decide)
          clear hK9 K9
          refine goes_one (i := 11) (by kernel_rfl) rfl (fun K9 hK9 => ?_)
          go_simp
          refine hK9.out _ _ (fun h => absurd rfl h) (fun _ => ?_)
          clear hK9 K9 hHeld
          refine goes_done (by kernel_rfl) ?_ _
          go_wp2
          go_roundw
          case rel => exact ⟨j + 1, _, num_succ j, by omega, HRP, HB8⟩
          case measure => simp [intOf]; omega
        · obtain rfl : j = l.length := by omega
          have hd2 : decide ((l.length : Int) < l.length) = false := by simp
          have HRN : Hid (RR wr 3 44 1 b (b + 1) m.length gI (waysUp (destsOf m) (k + 1) 0) V) := Lib.hid (by
            have := HRX.out
            rw [show l.length = (destsOf m k).length by rw [HDK.out, List.length_map], waysUp_next] at this; exact this)
          go_wp2
          go_roundw
          case rel => exact ⟨k + 1, V, num_succ k, by omega, HRN, HBW⟩
          case measure => simp [intOf]; omega
    · obtain rfl : k = m.length := by omega
      have hd : decide ((m.length : Int) < m.length) = false := by simp
      go_wp2
      exact bodyPost_ret (v := .slice (some ⟨b, 0, none⟩) m.length m.length) (by simp [results, Try.results31, go_sem, *]) rfl (HFIN.out _ _ HR0.out HB0.out)
end Go.Proofs.Ytamgldhnfcikbaa
set_option maxRecDepth 100000
namespace Go.Proofs.Ytamgldhnfcikbaa
open Go.RowKit

def Turn (c n : Nat) (D f : Nat → List Int) (k j : Nat) : Prop := ∀ i, i < n → (f i).length ≤ k * c + j ∧ ∀ x, x ∈ f i ↔ (∃ a, a < k ∧ (i : Int) ∈ D a ∧ x = (a : Int)) ∨ (x = (k : Int) ∧ (i : Int) ∈ (D k).take j)
theorem Turn.start (c n : Nat) (D : Nat → List Int) : Turn c n D (fun _ => []) 0 0 := fun i _ => ⟨by simp, fun x => by simp⟩
theorem Turn.next {c n : Nat} {D f : Nat → List Int} {k : Nat} (h : Turn c n D f k (D k).length) (hl : (D k).length ≤ c) : Turn c n D f (k + 1) 0 := by
  intro i hi
  obtain ⟨h1, h2⟩ := h i hi
  refine ⟨by rw [Nat.succ_mul]; omega, fun x => ?_⟩
  rw [h2, List.take_length, List.take_zero]
  constructor
  · rintro (⟨a, ha, h3, rfl⟩ | ⟨rfl, h3⟩)
    · exact .inl ⟨a, by omega, h3, rfl⟩
    · exact .inl ⟨k, by omega, h3, rfl⟩
  · rintro (⟨a, ha, h3, rfl⟩ | ⟨_, h3⟩)
    · rcases Nat.lt_or_ge a k with h4 | h4
      · exact .inl ⟨a, h4, h3, rfl⟩
      · have : a = k := by omega
        subst this
        exact .inr ⟨rfl, h3⟩
    · cases h3
theorem Turn.step {c n : Nat} {D f f' : Nat → List Int} {k j d : Nat} (h : Turn c n D f k j) (hj : j < (D k).length) (hd : (D k)[j] = (d : Int)) (h1 : f' d = f d ++ [(k : Int)]) (h2 : ∀ i, i ≠ d → f' i = f i) : Turn c n D f' k (j + 1) := by
  intro i hi
  obtain ⟨h3, h4⟩ := h i hi
  by_cases e : i = d
  · subst e
    rw [h1]
    refine ⟨by rw [List.length_append, List.length_singleton]; omega, fun x => ?_⟩
    rw [List.mem_append, h4, List.mem_singleton, List.take_succ_eq_append_getElem hj, List.mem_append, List.mem_singleton, hd]
    constructor
    · rintro ((h5 | ⟨h5, h6⟩) | h5)
      · exact .inl h5
      · exact .inr ⟨h5, .inl h6⟩
      · exact .inr ⟨h5, .inr rfl⟩
    · rintro (h5 | ⟨h5, _⟩)
      · exact .inl (.inl h5)
      · exact .inr h5
  · rw [h2 i e]
    refine ⟨by omega, fun x => ?_⟩
    rw [h4, List.take_succ_eq_append_getElem hj, List.mem_append, List.mem_singleton, hd]
    constructor
    · rintro (h5 | ⟨h5, h6⟩)
      · exact .inl h5
      · exact .inr ⟨h5, .inl h6⟩
    · rintro (h5 | ⟨h5, h6 | h6⟩)
      · exact .inl h5
      · exact .inr ⟨h5, h6⟩
      · exact absurd (by omega) e
def Turned (c n : Nat) (D : Nat → List Int) (w : World) (e : Ending) (w' : World) : Prop := ∃ b f V, e = .returned (.slice (some ⟨b, 0, none⟩) n n) ∧ Hid (RR w' 3 44 1 b (b + 1) n gI f V) ∧ Hid (Turn c n D f n 0) ∧ w.heap.size ≤ b ∧ Hid (Below w.heap.size w w')
set_option linter.unusedSimpArgs false in
set_option maxHeartbeats 8000000 in
theorem turned_any (c b0 B0 n : Nat) (D : Nat → List Int) (V0 : Nat → Value) (w : World) (hv : RR w 3 44 1 b0 B0 n gI D V0) (hn : n ≤ 4096) (hc : c ≤ 1000000) (hl : ∀ i, i < n → (D i).length ≤ c ∧ ∀ x ∈ D i, 0 ≤ x ∧ x < n) :
    Calls Try.prog 33 #[.slice (some ⟨b0, 0, none⟩) n n] w (Turned c n D w) := by
  obtain ⟨i0, hi0, hz0, hz1, hz2⟩ := info_parts infoI
  have HI := Lib.hid (And.intro hi0 (And.intro hz0 (And.intro hz1 hz2)))
  clear hi0 hz0 hz1 hz2
  obtain ⟨b, hb⟩ : ∃ b, w.heap.size = b := ⟨_, rfl⟩
  have HV := Lib.hid (show ∀ wr, Below b w wr → RR wr 3 44 1 b0 B0 n gI D V0 from fun wr h => hv.below (by rw [hb]; exact h))
  have hb0 := hv.lt
  rw [hb] at hb0
  have HL := Lib.hid hl
  clear hv hl
  have hmk := make_slices Try.underlying53 infoRow (c := (n : Int)) (n := n) rfl (by omega)
  have HB0 : Hid (Below b w (w.alloc (.cells (Slices n fun _ => .slice none 0 0) 44))) := Lib.hid (by rw [← hb]; exact new_one w _)
  have HR0 : Hid (RR (w.alloc (.cells (Slices n fun _ => .slice none 0 0) 44)) 3 44 1 b (b + 1) n gI (fun _ => []) fun _ => .slice none 0 0) := Lib.hid (by rw [← hb]; exact RR.new w _ _ _ _ _)
  have HT0 := Lib.hid (Turn.start c n D)
  have HFIN := Lib.hid (show ∀ w' f V, RR w' 3 44 1 b (b + 1) n gI f V → Turn c n D f n 0 → Below b w w' → Turned c n D w (.returned (.slice (some ⟨b, 0, none⟩) n n)) w' from fun w' f V h h1 h2 => ⟨b, f, V, rfl, Lib.hid h, Lib.hid h1, by omega, Lib.hid (by rw [hb]; exact h2)⟩)
  go_enter Try.func33, Try.ntmps33
  go_wp2
  clear hmk
  go_loopw [13] (fun z wr => ∃ (k : Nat) (f : Nat → List Int) (V : Nat → Value), z = .int .i64 k ∧ k ≤ n ∧ Hid (RR wr 3 44 1 b (b + 1) n gI f V) ∧ Hid (Turn c n D f k 0) ∧ Hid (Below b w wr)) (fun z _ => n - (intOf z).toNat)
  case atStart => exact ⟨0, _, _, rfl, Nat.zero_le _, HR0, HT0, HB0⟩
  case round =>
    clear HB0 HR0 HT0
    obtain ⟨k, f, V, rfl, hk, HR0, HT0, HB0⟩ := hrel
    by_cases hlt : k < n
    · have hd : decide ((k : Int) < n) = true := decide_eq_true (by omega)
      have hkl : (k : Int) < n := by omega
      have e0 := (HV.out wr HB0.out).cell hlt
      obtain ⟨ra, rc, hrv⟩ := (HV.out wr HB0.out).form hlt
      rw [hrv] at e0
      obtain ⟨hlD, hxD⟩ := HL.out k hlt
      have HXD := Lib.hid hxD
      have HRV := Lib.hid hrv
      clear hxD hrv
      obtain ⟨ln, hln⟩ : ∃ ln, (D k).length = ln := ⟨_, rfl⟩
      rw [hln] at e0 hlD
      go_wp2
      clear e0
      go_loopw [20] (fun z ws => ∃ (j : Nat) (f : Nat → List Int) (V : Nat → Value), z = .int .i64 j ∧ j ≤ ln ∧ Hid (RR ws 3 44 1 b (b + 1) n gI f V) ∧ Hid (Turn c n D f k j) ∧ Hid (Below b w ws)) (fun z _ => ln - (intOf z).toNat)
      case atStart => exact ⟨0, f, V, rfl, Nat.zero_le _, HR0, HT0, HB0⟩
      case round =>
        clear HR0 HB0 HT0
        obtain ⟨j, f, V, rfl, hj, HRX, HTX, HBW⟩ := hrel
        by_cases hlj : j < ln
        · have hd2 : decide ((j : Int) < ln) = true := decide_eq_true (by omega)
          have hjl : (j : Int) < ln := by omega
          obtain ⟨q, c9, hq1, hq2, hq3, hq4⟩ := (HV.out wr HBW.out).at hlt (by omega)
          rw [HRV.out] at hq1
          cases hq1
          have hjD : j < (D k).length := by omega
          have a0 := hq4 j (.int .i64 (D k)[j]) (by rw [gI_map]; simp [hjD])
          obtain ⟨hx0, hx1⟩ := HXD.out _ (List.getElem_mem hjD)
          obtain ⟨d, hxd⟩ : ∃ d : Nat, (D k)[j] = (d : Int) := ⟨((D k)[j]).toNat, by omega⟩
          rw [hxd] at a0 hx0 hx1
          have hdn : d < n := by omega
          obtain ⟨a3, cp3, hV⟩ := HRX.out.form hdn
          have hlnf := (HTX.out d hdn).1
          have e1 := HRX.out.cell hdn
          have hfz := HRX.out.frozen d
          obtain ⟨l3, hl3⟩ : ∃ l3, (f d).length = l3 := ⟨_, rfl⟩
          rw [hl3] at hV hlnf
          rw [hV] at e1
          have HROW : Hid (wr.ownsRow (b + 1) 3 1 (.slice a3 l3 cp3) l3 ((f d).flatMap gI)) := Lib.hid (by have := HRX.out.own d hdn; rw [hV, hl3] at this; exact this)
          have hbwr := HRX.out.big
          have HBA : Hid (Below wr.heap.size wr (wr.alloc (.cells #[.int .i64 k] 3))) := Lib.hid (new_one wr _)
          have HRA := Lib.hid (HROW.out.alloc (.cells #[.int .i64 k] 3))
          have hxn := heap_alloc_new wr (.cells #[.int .i64 k] 3)
          have HR6 := Lib.hid (HRX.out.below HBA.out)
          have hkc : k * c ≤ 4096 * 1000000 := Nat.mul_le_mul (by omega) hc
          have hln3 : l3 < 5000000000 := by omega
          have HXDJ := Lib.hid (And.intro hjD hxd)
          have HVL := Lib.hid (And.intro hV hl3)
          clear hq4 hq2 hq3 hV hlnf hkc
          have HFV : Hid (∀ q, (Value.slice a3 l3 cp3).ownBlock = some q → b + 1 ≤ q ∧ q < wr.heap.size) := Lib.hid (fun q e => HROW.out.lt q e)
          have HFZ := Lib.hid (show ∀ w8, (wr.alloc (.cells #[.int .i64 k] 3)).grownBy w8 (Value.slice a3 l3 cp3).ownBlock → w8.frozen? ⟨b, d, none⟩ = false ∧ w8.cell? ⟨b, d, none⟩ = some (.slice a3 l3 cp3) from fun w8 h3 => ⟨frozen_row (j := d) ((h3.block b HR6.out.lt (fun e => by have := (HFV.out b e.symm).1; omega)).trans HR6.out.blk), (World.cell?_of_block (h3.block b HR6.out.lt (fun e => by have := (HFV.out b e.symm).1; omega))).trans ((HR6.out.cell hdn).trans (by rw [HVL.out.1]))⟩)
          go_wp2_with (at_builtin; refine wpList_append_lies _ rfl _ _ 44 rfl (b + 1) 3 i0 (.int .i64 0) 1 8 Try.underlying44 HI.out.1 HI.out.2.1 HI.out.2.2.1 HI.out.2.2.2 rfl (by decide) (.slice a3 l3 cp3) l3 ((f d).flatMap gI) rfl HRA.out ⟨wr.heap.size, 0, none⟩ 1 1 [.int .i64 k] rfl rfl (one_newsI hxn) (by simp [Value.oneCell']) (by omega) (by unfold maxLen; omega) (by omega) (by simp; omega) (wr.heap.size + 1) (by simp) ?_; intro g9 cap2 w8 h2 h3 h4 h5; have hfz8 := (HFZ.out w8 h3).1; have hcl8 := (HFZ.out w8 h3).2)
          have hv8 : (V d).ownBlock = (Value.slice (some ⟨g9, 0, none⟩) (l3 + 1) cap2).ownBlock ∨ ∃ q, (Value.slice (some ⟨g9, 0, none⟩) (l3 + 1) cap2).ownBlock = some q ∧ (wr.alloc (.cells #[.int .i64 k] 3)).heap.size ≤ q := by
            rw [HVL.out.1]
            rcases h4 with h4 | h4
            · exact .inl h4
            · exact .inr ⟨g9, rfl, by simp; omega⟩
          have HRP := Lib.hid (HR6.out.push (f' := fun i => if i = d then f d ++ [(k : Int)] else f i) (V' := fun i => if i = d then .slice (some ⟨g9, 0, none⟩) (l3 + 1) cap2 else V i) (x := (k : Int)) hdn (by rw [HVL.out.1]; exact h3) (by rw [HVL.out.2]; exact h2) hv8 (by simp) (fun i hi => by simp [hi]) (by simp) (fun i hi => by simp [hi]))
          have HTP := Lib.hid (HTX.out.step (f' := fun i => if i = d then f d ++ [(k : Int)] else f i) HXDJ.out.1 HXDJ.out.2 (by simp) (fun i hi => by simp [hi]))
          have hB8 : Below b w w8 := (HBW.out.trans (HBA.out.mono (by omega))).grown h3 (by simp; omega) (fun q e => by have := (HFV.out q e).1; omega)
          have HB8 := Lib.hid (hB8.setCell (p := ⟨b, d, none⟩) (Nat.le_refl b) (.slice (some ⟨g9, 0, none⟩) (l3 + 1) cap2))
          clear h2 h3 h4 h5 hv8 hB8 HRA hxn HR6 HROW HFV HRX HTX HBW
          go_roundw
          case rel => exact ⟨j + 1, _, _, num_succ j, by omega, HRP, HTP, HB8⟩
          case measure => simp [intOf]; omega
        · obtain rfl : j = ln := by omega
          have hd2 : decide ((j : Int) < j) = false := by simp
          have HTN := Lib.hid (Turn.next (by rw [hln]; exact HTX.out) (by rw [hln]; exact hlD))
          go_wp2
          go_roundw
          case rel => exact ⟨k + 1, f, V, num_succ k, by omega, HRX, HTN, HBW⟩
          case measure => simp [intOf]; omega
    · obtain rfl : k = n := by omega
      have hd : decide ((k : Int) < k) = false := by simp
      go_wp2
      exact bodyPost_ret (v := .slice (some ⟨b, 0, none⟩) k k) (by simp [results, Try.results33, go_sem, *]) rfl (HFIN.out _ _ _ HR0.out HT0.out HB0.out)
end Go.Proofs.Ytamgldhnfcikbaa
set_option maxRecDepth 100000
namespace Go.Proofs.Ytamgldhnfcikbaa
open Go.RowKit

def natsL (l : List Nat) : List Value := l.map fun x : Nat => Value.int .i64 (x : Int)
theorem natsL_len (l : List Nat) : (natsL l).length = l.length := by simp [natsL]
def IntsIn (w : World) (v : Value) (l : List Nat) : Prop := ∃ a c, v = .slice a l.length c ∧ ∀ i (h : i < l.length), ∃ b o, a = some ⟨b, o, none⟩ ∧ w.cell? ⟨b, o + i, none⟩ = some (.int .i64 (l[i] : Nat))
theorem IntsIn.below {w w' : World} {v : Value} {l : List Nat} (h : IntsIn w v l) (hb : Below w.heap.size w w') : IntsIn w' v l := by
  obtain ⟨a, c, h1, h2⟩ := h
  exact ⟨a, c, h1, fun i hi => by
    obtain ⟨b, o, h3, h4⟩ := h2 i hi
    exact ⟨b, o, h3, cell_below hb h4⟩⟩
structure RI (n : Nat) (S T : Nat → Bool) (X l : List Nat) : Prop where
  mark : ∀ i, T i = true ↔ S i = true ∨ i ∈ X
  new : ∀ i ∈ X, S i = false ∧ i ∈ l ∧ i < n
  all : ∀ i ∈ l, T i = true
  cnt : unm n T + X.length = unm n S
theorem RI.start (n : Nat) (S : Nat → Bool) : RI n S S [] [] := ⟨fun i => by simp, fun i h => (by cases h), fun i h => (by cases h), rfl⟩
theorem RI.old {n : Nat} {S T : Nat → Bool} {X l : List Nat} (h : RI n S T X l) {x : Nat} (hx : T x = true) : RI n S T X (l ++ [x]) :=
  ⟨h.mark, fun i hi => ⟨(h.new i hi).1, List.mem_append_left _ (h.new i hi).2.1, (h.new i hi).2.2⟩, fun i hi => by
    rcases List.mem_append.1 hi with hi | hi
    · exact h.all i hi
    · rw [List.mem_singleton] at hi; subst hi; exact hx, h.cnt⟩
theorem RI.fresh {n : Nat} {S T : Nat → Bool} {X l : List Nat} (h : RI n S T X l) {x : Nat} (hx : T x = false) (hn : x < n) : RI n S (fun y => T y || y == x) (X ++ [x]) (l ++ [x]) := by
  refine ⟨fun i => ?_, fun i hi => ?_, fun i hi => ?_, ?_⟩
  · rw [Bool.or_eq_true, beq_iff_eq, h.mark, List.mem_append, List.mem_singleton, or_assoc]
  · rcases List.mem_append.1 hi with hi | hi
    · exact ⟨(h.new i hi).1, List.mem_append_left _ (h.new i hi).2.1, (h.new i hi).2.2⟩
    · rw [List.mem_singleton] at hi; subst hi
      refine ⟨?_, by simp, hn⟩
      cases hS : S i
      · rfl
      · rw [(h.mark i).2 (.inl hS)] at hx; cases hx
  · rcases List.mem_append.1 hi with hi | hi
    · simp [h.all i hi]
    · rw [List.mem_singleton] at hi; subst hi; simp
  · have := unm_mark (S := T) (s := x) n hn hx
    have := h.cnt
    rw [List.length_append, List.length_singleton]; omega
structure RS (w : World) (N n : Nat) (T : Nat → Bool) (vw : Value) (W : List Nat) : Prop where
  seen : Blk w N n T
  v1 : w.heap[N + 1]? = some (.cells #[.slice (some ⟨N, 0, none⟩) n n] 28 (0, 0))
  v2 : w.heap[N + 2]? = some (.cells #[vw] 44 (0, 0))
  row : w.ownsRow (N + 3) 3 1 vw W.length (natsL W)
  big : N + 3 ≤ w.heap.size
theorem RS.mark {w : World} {N n x : Nat} {T T' : Nat → Bool} {vw : Value} {W : List Nat} (h : RS w N n T vw W) (hx : T' x = true) (ho : ∀ i, i < n → i ≠ x → T i = T' i) : RS (w.setCell ⟨N, x, none⟩ (.bool true)) N n T' vw W :=
  ⟨h.seen.set hx ho, by rw [Below.heap_setCell _ _ _ _ (show N + 1 ≠ N by omega)]; exact h.v1, by rw [Below.heap_setCell _ _ _ _ (show N + 2 ≠ N by omega)]; exact h.v2,
    row_same h.row fun k ek => Below.heap_setCell _ _ _ _ (show k ≠ N by have := (h.row.lt k ek).1; omega), by have := h.big; simpa using this⟩
theorem RS.push {w w' : World} {N n : Nat} {T : Nat → Bool} {vw v : Value} {W W' : List Nat} (h : RS w N n T vw W) (hg : w.grownBy w' vw.ownBlock) (hr : w'.ownsRow (N + 3) 3 1 v W'.length (natsL W')) : RS (w'.setCell ⟨N + 2, 0, none⟩ v) N n T v W' := by
  have hne : ∀ k, k < N + 3 → some k ≠ vw.ownBlock := fun k hk e => by have := (h.row.lt k e.symm).1; omega
  have hb := h.big
  have key : ∀ k, k < N + 3 → k ≠ N + 2 → (w'.setCell ⟨N + 2, 0, none⟩ v).heap[k]? = w.heap[k]? := fun k hk hk2 => by
    rw [Below.heap_setCell _ _ _ _ (show k ≠ N + 2 from hk2), hg.block k (by omega) (hne k hk)]
  refine ⟨(key N (by omega) (by omega)).trans h.seen, (key _ (by omega) (by omega)).trans h.v1, ?_, row_same hr fun k ek => Below.heap_setCell _ _ _ _ (show k ≠ N + 2 by have := (hr.lt k ek).1; omega), by have := hg.size; simp; omega⟩
  have hx : w'.heap[N + 2]? = some (.cells #[vw] 44 (0, 0)) := by rw [hg.block _ (by omega) (hne _ (by omega))]; exact h.v2
  rw [setCell_block hx]; rfl
def Reached1 (w0 w' : World) (N n : Nat) (S : Nat → Bool) (W l : List Nat) : Prop := ∃ T X vw, RS w' N n T vw (W ++ X) ∧ RI n S T X l ∧ Below N w0 w'
set_option linter.unusedSimpArgs false in
set_option maxHeartbeats 8000000 in
theorem reach1_any (N n : Nat) (S : Nat → Bool) (W l : List Nat) (vl vw : Value) (w0 w : World) (hB : Below N w0 w) (hl : ∀ wr, Below N w0 wr → IntsIn wr vl l) (hln : l.length < 1000000000000) (hx : ∀ x ∈ l, x < n) (hn : n ≤ 4096) (h : RS w N n S vw W) (hW : W.length + unm n S ≤ n) :
    Calls Try.prog 53 #[vl, .pointer (some ⟨N + 1, 0, none⟩), .pointer (some ⟨N + 2, 0, none⟩)] w fun e w' => e = .returned (.tuple #[]) ∧ Hid (Reached1 w0 w' N n S W l) := by
  obtain ⟨i0, hi0, hz0, hz1, hz2⟩ := info_parts infoI
  have HI := Lib.hid (And.intro hi0 (And.intro hz0 (And.intro hz1 hz2)))
  clear hi0 hz0 hz1 hz2
  have HL := Lib.hid hl
  have HX := Lib.hid hx
  have HB0 := Lib.hid hB
  have HS0 : Hid (RS w N n S vw (W ++ [])) := Lib.hid (by rw [List.append_nil]; exact h)
  have HR0 : Hid (RI n S S [] (l.take 0)) := Lib.hid (RI.start n S)
  obtain ⟨av, cv, rfl, _⟩ := hl w hB
  clear hl hx hB h
  go_enter Try.func53, Try.ntmps53
  go_wp2
  go_loopw [8] (fun z wr => ∃ (k : Nat) (T : Nat → Bool) (X : List Nat) (vw : Value), z = .int .i64 k ∧ k ≤ l.length ∧ Hid (RS wr N n T vw (W ++ X)) ∧ Hid (RI n S T X (l.take k)) ∧ Hid (Below N w0 wr)) (fun z _ => l.length - (intOf z).toNat)
  case atStart => exact ⟨0, S, [], vw, rfl, Nat.zero_le _, HS0, HR0, HB0⟩
  case round =>
    clear HS0 HR0 HB0
    obtain ⟨k, T, X, vw, rfl, hk, HS, HR, HB⟩ := hrel
    by_cases hlt : k < l.length
    · have hd : decide ((k : Int) < l.length) = true := decide_eq_true (by omega)
      have hkl : (k : Int) < l.length := by omega
      obtain ⟨a9, c9, e9, hcell⟩ := HL.out wr HB.out
      cases e9
      obtain ⟨b, o, rfl, e0⟩ := hcell k hlt
      have hxn := HX.out _ (List.getElem_mem hlt)
      have HTK := Lib.hid (show l.take (k + 1) = l.take k ++ [l[k]] from List.take_succ_eq_append_getElem hlt)
      generalize l[k] = x at *
      have hxn2 : (x : Int) < n := by omega
      have v1 : wr.cell? ⟨N + 1, 0, none⟩ = some (.slice (some ⟨N, 0, none⟩) n n) := (cell_of_row wr (N + 1) 0 _ _ _ HS.out.v1).trans rfl
      have s0 := HS.out.seen.cell hxn
      clear hcell
      cases hT : T x
      · rw [hT] at s0
        have hfs : wr.frozen? ⟨N, x, none⟩ = false := HS.out.seen.frozen
        have HM := Lib.hid (HS.out.mark (x := x) (T' := fun y => T y || y == x) (by simp) (fun i _ hne => by simp [hne]))
        have HF := Lib.hid (HR.out.fresh hT hxn)
        rw [← HTK.out] at HF
        obtain ⟨w5, hw5⟩ : ∃ w5, wr.setCell ⟨N, x, none⟩ (.bool true) = w5 := ⟨_, rfl⟩
        have HB5 : Hid (Below N w0 w5) := Lib.hid (by rw [← hw5]; exact HB.out.setCell (p := ⟨N, x, none⟩) (Nat.le_refl N) _)
        rw [hw5] at HM
        have hcnt := HF.out.cnt
        rw [List.length_append, List.length_singleton] at hcnt
        have hb5 := HM.out.big
        obtain ⟨a3, cp3, rfl⟩ := row_form HM.out.row
        obtain ⟨ln, hlne⟩ : ∃ ln, (W ++ X).length = ln := ⟨_, rfl⟩
        have hlnn : ln ≤ 5000 := by rw [← hlne, List.length_append]; omega
        have HROW := Lib.hid HM.out.row
        have hv2 := HM.out.v2
        rw [hlne] at HROW hv2
        have w2 : w5.cell? ⟨N + 2, 0, none⟩ = some (.slice a3 ln cp3) := (cell_of_row w5 (N + 2) 0 _ _ _ hv2).trans rfl
        have HRA := Lib.hid (HROW.out.alloc (.cells #[.int .i64 x] 3))
        have hxa := heap_alloc_new w5 (.cells #[.int .i64 x] 3)
        have HM6 : Hid (RS (w5.alloc (.cells #[.int .i64 x] 3)) N n (fun y => T y || y == x) (.slice a3 ln cp3) (W ++ X)) := Lib.hid (by
          have h6 := new_one w5 (.cells #[.int .i64 x] 3)
          have h7 := HM.out
          rw [hlne] at h7
          exact ⟨h7.seen.below h6, (h6.block _ (by omega)).trans h7.v1, (h6.block _ (by omega)).trans h7.v2, row_same h7.row fun q e => h6.block q (h7.row.lt q e).2, by simp; omega⟩)
        have HFZ := Lib.hid (show ∀ w8, (w5.alloc (.cells #[.int .i64 x] 3)).grownBy w8 (Value.slice a3 ln cp3).ownBlock → w8.frozen? ⟨N + 2, 0, none⟩ = false ∧ w8.cell? ⟨N + 2, 0, none⟩ = some (.slice a3 ln cp3) from fun w8 h3 => by
          have h9 := h3.block (N + 2) (by simp; omega) (fun e => by have := (HROW.out.lt _ e.symm).1; omega)
          have h8 := h9.trans HM6.out.v2
          exact ⟨frozen_row (j := 0) h8, (cell_of_row w8 (N + 2) 0 _ _ _ h8).trans rfl⟩)
        have HLE := Lib.hid hlne
        clear hcnt hlne hv2
        go_wp2_with (at_builtin; refine wpList_append_lies _ rfl _ _ 44 rfl (N + 3) 3 i0 (.int .i64 0) 1 8 Try.underlying44 HI.out.1 HI.out.2.1 HI.out.2.2.1 HI.out.2.2.2 rfl (by decide) (.slice a3 ln cp3) ln (natsL (W ++ X)) rfl HRA.out ⟨w5.heap.size, 0, none⟩ 1 1 [.int .i64 x] rfl rfl (one_newsI hxa) (by simp [Value.oneCell']) (by omega) (by unfold maxLen; omega) (by omega) (by simp; omega) (w5.heap.size + 1) (by simp) ?_; intro g9 cap2 w8 h2 h3 h4 h5; have hfz8 := (HFZ.out w8 h3).1; have hcl8 := (HFZ.out w8 h3).2)
        have HSP := Lib.hid (HM6.out.push (W' := W ++ (X ++ [x])) (v := .slice (some ⟨g9, 0, none⟩) (ln + 1) cap2) h3 (by
          rw [show (W ++ (X ++ [x])).length = ln + 1 by rw [← HLE.out]; simp [Nat.add_assoc], show natsL (W ++ (X ++ [x])) = natsL (W ++ X) ++ [.int .i64 x] by simp [natsL]]
          exact h2))
        have HB8 : Hid (Below N w0 (w8.setCell ⟨N + 2, 0, none⟩ (.slice (some ⟨g9, 0, none⟩) (ln + 1) cap2))) := Lib.hid (((HB5.out.trans ((new_one w5 _).mono (by omega))).grown h3 (by simp; omega) (fun q e => by have := (HROW.out.lt q e).1; omega)).setCell (p := ⟨N + 2, 0, none⟩) (by show N ≤ N + 2; omega) _)
        clear h2 h3 h4 h5
        go_roundw
        case rel => exact ⟨k + 1, _, _, _, num_succ k, by omega, HSP, HF, HB8⟩
        case measure => simp [intOf]; omega
      · rw [hT] at s0
        have HO := Lib.hid (HR.out.old hT)
        rw [← HTK.out] at HO
        go_wp2
        go_roundw
        case rel => exact ⟨k + 1, T, X, vw, num_succ k, by omega, HS, HO, HB⟩
        case measure => simp [intOf]; omega
    · obtain rfl : k = l.length := by omega
      have hd : decide ((l.length : Int) < l.length) = false := by simp
      rw [List.take_length] at HR
      go_wp2
      go_end0
      exact ⟨rfl, Lib.hid ⟨T, X, vw, HS.out, HR.out, HB.out⟩⟩
end Go.Proofs.Ytamgldhnfcikbaa
set_option maxRecDepth 100000
namespace Go.Proofs.Ytamgldhnfcikbaa
open Go.RowKit

inductive ReachD (D : Nat → List Int) (l : List Nat) : Nat → Prop
  | start {i : Nat} (h : i ∈ l) : ReachD D l i
  | step {i j : Nat} (h : ReachD D l i) (hx : (j : Int) ∈ D i) : ReachD D l j
structure RW (D : Nat → List Int) (l : List Nat) (n : Nat) (S : Nat → Bool) (W : List Nat) : Prop where
  sound : ∀ i, S i = true → ReachD D l i ∧ i < n
  closed : ∀ i, S i = true → i ∉ W → ∀ j : Nat, (j : Int) ∈ D i → S j = true
  base : ∀ i ∈ l, S i = true
  wait : ∀ i ∈ W, S i = true
  len : W.length + unm n S ≤ n
theorem unm_none (n : Nat) : unm n (fun _ => false) = n := by
  induction n with
  | zero => rfl
  | succ n ih => unfold unm; rw [ih]; simp
theorem RW.first {D : Nat → List Int} {l : List Nat} {n : Nat} {T : Nat → Bool} {X : List Nat} (h : RI n (fun _ => false) T X l) : RW D l n T X := by
  have hm : ∀ i, T i = true → i ∈ X := fun i hi => by
    rcases (h.mark i).1 hi with h1 | h1
    · cases h1
    · exact h1
  exact ⟨fun i hi => ⟨.start (h.new i (hm i hi)).2.1, (h.new i (hm i hi)).2.2⟩, fun i hi hn => absurd (hm i hi) hn, h.all, fun i hi => (h.mark i).2 (.inr hi), by have := h.cnt; rw [unm_none] at this; omega⟩
theorem RW.go {D : Nat → List Int} {l : List Nat} {n x : Nat} {S T : Nat → Bool} {W X : List Nat} (h : RW D l n S (W ++ [x])) {dn : List Nat} (hd : ∀ j : Nat, j ∈ dn ↔ (j : Int) ∈ D x) (hi : RI n S T X dn) : RW D l n T (W ++ X) := by
  have hx := h.wait x (by simp)
  refine ⟨fun i hT => ?_, fun i hT hn j hj => ?_, fun i hl => (hi.mark i).2 (.inl (h.base i hl)), fun i hW => ?_, ?_⟩
  · rcases (hi.mark i).1 hT with h1 | h1
    · exact h.sound i h1
    · exact ⟨.step (h.sound x hx).1 ((hd i).1 (hi.new i h1).2.1), (hi.new i h1).2.2⟩
  · rw [List.mem_append, not_or] at hn
    rcases (hi.mark i).1 hT with h1 | h1
    · by_cases e : i = x
      · subst e
        exact hi.all j ((hd j).2 hj)
      · exact (hi.mark j).2 (.inl (h.closed i h1 (by rw [List.mem_append, List.mem_singleton]; exact fun h2 => h2.elim hn.1 e) j hj))
    · exact absurd h1 hn.2
  · rcases List.mem_append.1 hW with h1 | h1
    · exact (hi.mark i).2 (.inl (h.wait i (List.mem_append_left _ h1)))
    · exact (hi.mark i).2 (.inr h1)
  · have h1 := h.len
    have h2 := hi.cnt
    rw [List.length_append, List.length_singleton] at h1
    rw [List.length_append]; omega
theorem RW.done {D : Nat → List Int} {l : List Nat} {n : Nat} {S : Nat → Bool} (h : RW D l n S []) (i : Nat) : S i = true ↔ ReachD D l i := by
  refine ⟨fun hS => (h.sound i hS).1, fun hr => ?_⟩
  induction hr with
  | start hl => exact h.base _ hl
  | step _ hj ih => exact h.closed _ ih (by simp) _ hj
theorem row_pop {w : World} {B g cap n : Nat} {x : Nat} {W : List Nat} (h : w.ownsRow B 3 1 (.slice (some ⟨g, 0, none⟩) (n + 1) cap) (n + 1) (natsL (W ++ [x]))) (hn : W.length = n) : w.ownsRow B 3 1 (.slice (some ⟨g, 0, none⟩) n cap) n (natsL W) := by
  obtain ⟨h1, h2⟩ := h
  refine ⟨by rw [natsL_len]; omega, ?_⟩
  rcases h2 with ⟨h3, _⟩ | ⟨g', cap', cur, e, h3, h4, h5, h6, h7, h8⟩
  · cases h3
  · cases e
    refine .inr ⟨g, cap, cur, rfl, h3, h4, by omega, h6, h7, ?_⟩
    have h9 := congrArg (List.take (n * 1)) h8
    rw [List.take_take, Nat.min_eq_left (by omega)] at h9
    rw [h9]
    simp only [natsL, List.map_append]
    rw [List.take_append_of_le_length (by rw [List.length_map]; omega), List.take_of_length_le (by rw [List.length_map]; omega)]
theorem row_cap {w : World} {B sz n cap : Nat} {e : TypeId} {a : Option Addr} {xs : List Value} (h : w.ownsRow B e sz (.slice a n cap) n xs) : n ≤ cap := by
  rcases h.2 with ⟨h3, h4⟩ | ⟨g', cap', cur, ee, _, _, h5, _⟩
  · omega
  · cases ee; exact h5
def toNats (l : List Int) : List Nat := l.map Int.toNat
theorem toNats_mem {l : List Int} (h : ∀ x ∈ l, 0 ≤ x) (j : Nat) : j ∈ toNats l ↔ (j : Int) ∈ l := by
  unfold toNats
  rw [List.mem_map]
  constructor
  · rintro ⟨x, hx, rfl⟩
    rw [Int.toNat_of_nonneg (h x hx)]; exact hx
  · intro hj
    exact ⟨_, hj, by simp⟩
theorem RR.ints {w : World} {b B n i : Nat} {D : Nat → List Int} {V : Nat → Value} (h : RR w 3 44 1 b B n gI D V) (hi : i < n) (h0 : ∀ x ∈ D i, 0 ≤ x) : IntsIn w (V i) (toNats (D i)) := by
  obtain ⟨a, c, e⟩ := h.form hi
  refine ⟨a, c, by rw [e]; simp [toNats], fun j hj => ?_⟩
  have hjl : j < (D i).length := by simpa [toNats] using hj
  obtain ⟨q, c2, e2, _, _, h4⟩ := h.at hi (by omega)
  rw [e] at e2
  cases e2
  refine ⟨q, 0, rfl, ?_⟩
  have := h4 j (.int .i64 (D i)[j]) (by rw [gI_map]; simp [hjl])
  rw [Nat.zero_add, this]
  simp only [toNats, List.getElem_map]
  rw [Int.toNat_of_nonneg (h0 _ (List.getElem_mem hjl))]
def RReach (n : Nat) (D : Nat → List Int) (l : List Nat) (w : World) (e : Ending) (w' : World) : Prop := ∃ S, e = .returned (.slice (some ⟨w.heap.size, 0, none⟩) n n) ∧ Hid (Blk w' w.heap.size n S) ∧ Hid (∀ i, S i = true ↔ ReachD D l i) ∧ Hid (Below w.heap.size w w')
set_option linter.unusedSimpArgs false in
set_option maxHeartbeats 8000000 in
theorem reached_any (b0 B0 n : Nat) (D : Nat → List Int) (V0 : Nat → Value) (l : List Nat) (vl : Value) (w : World) (hv : RR w 3 44 1 b0 B0 n gI D V0) (hn : n ≤ 4096) (hD : ∀ i, i < n → (D i).length < 1000000000000 ∧ ∀ x ∈ D i, 0 ≤ x ∧ x < n) (hl : IntsIn w vl l) (hln : l.length < 1000000000000) (hlx : ∀ x ∈ l, x < n) :
    Calls Try.prog 32 #[.slice (some ⟨b0, 0, none⟩) n n, vl] w (RReach n D l w) := by
  obtain ⟨N, hN⟩ : ∃ N, w.heap.size = N := ⟨_, rfl⟩
  have HV := Lib.hid (show ∀ wr, Below N w wr → RR wr 3 44 1 b0 B0 n gI D V0 from fun wr h => hv.below (by rw [hN]; exact h))
  have HLI := Lib.hid (show ∀ wr, Below N w wr → IntsIn wr vl l from fun wr h => hl.below (by rw [hN]; exact h))
  have HD := Lib.hid hD
  have hmk := make_bools (c := (n : Int)) (n := n) rfl (by omega)
  have hmax : max (n : Int) 0 = n := by omega
  obtain ⟨W3, hW3⟩ : ∃ W3, ((w.alloc (.cells (Places n fun _ => false) 4)).alloc (.cells #[.slice (some ⟨N, 0, none⟩) n n] 28)).alloc (.cells #[.slice none 0 0] 44) = W3 := ⟨_, rfl⟩
  have HB3 : Hid (Below N w W3) := Lib.hid (by rw [← hW3, ← hN]; exact ((new_one w _).trans ((new_one _ _).mono (by simp))).trans ((new_one _ _).mono (by simp; omega)))
  have HS3 : Hid (RS W3 N n (fun _ => false) (.slice none 0 0) []) := Lib.hid (by
    rw [← hW3, ← hN]
    refine ⟨?_, ?_, ?_, World.ownsRow_nil _ _ _ _, by simp⟩
    · unfold Blk
      rw [heap_alloc_old _ _ (by simp; omega), heap_alloc_old _ _ (by simp)]; exact heap_alloc_new w _
    · rw [heap_alloc_old _ _ (by simp)]
      have := heap_alloc_new (w.alloc (.cells (Places n fun _ => false) 4)) (.cells #[.slice (some ⟨w.heap.size, 0, none⟩) n n] 28)
      simpa using this
    · have := heap_alloc_new ((w.alloc (.cells (Places n fun _ => false) 4)).alloc (.cells #[.slice (some ⟨w.heap.size, 0, none⟩) n n] 28)) (.cells #[.slice none 0 0] 44)
      simpa using this)
  have HR1 := Lib.hid (show ∀ wr, Below N w wr → ∀ T vw, RS wr N n T vw [] → T = (fun _ => false) → _ from fun wr hb T vw h e => reach1_any N n T [] l vl vw w wr hb HLI.out hln hlx hn h (by rw [e, unm_none]; simp))
  have HFIN := Lib.hid (show ∀ S w', Blk w' N n S → (∀ i, S i = true ↔ ReachD D l i) → Below N w w' → RReach n D l w (.returned (.slice (some ⟨N, 0, none⟩) n n)) w' from fun S w' h1 h2 h3 => by
    rw [← hN] at h1 h3 ⊢
    exact ⟨S, rfl, Lib.hid h1, Lib.hid h2, Lib.hid h3⟩)
  clear hv hl hD
  go_enter Try.func32, Try.ntmps32
  go_wp2_with (go_at_call 53; refine (HR1.out _ HB3.out _ _ HS3.out rfl).mono ?_; rintro e w5 ⟨rfl, hr5⟩)
  obtain ⟨T1, X1, vw1, hs1, hri1, hb1⟩ := hr5.out
  rw [List.nil_append] at hs1
  have HS1 := Lib.hid hs1
  have HW1 := Lib.hid (RW.first (D := D) hri1)
  have HB1 := Lib.hid hb1
  clear hr5 hs1 hri1 hb1 HR1 HS3 HB3 hW3 hmk hmax
  go_loopg [9] (2 * unm n T1 + X1.length) (fun gk x wr => ∃ (T : Nat → Bool) (W : List Nat) (vw : Value), gk = 2 * unm n T + W.length ∧ Hid (RS wr N n T vw W) ∧ Hid (RW D l n T W) ∧ Hid (Below N w wr))
  case atStart => exact ⟨T1, X1, vw1, rfl, HS1, HW1, HB1⟩
  case round =>
    clear HS1 HW1 HB1
    obtain ⟨T, W, vw, hgk, HS, HW, HB⟩ := hrel
    have hv2 := HS.out.v2
    have hrow := HS.out.row
    obtain ⟨a3, cp3, rfl⟩ := row_form hrow
    have v2 : wr.cell? ⟨N + 2, 0, none⟩ = some (.slice a3 W.length cp3) := (cell_of_row wr (N + 2) 0 _ _ _ hv2).trans rfl
    rcases List.eq_nil_or_concat W with rfl | ⟨W', x, hWx⟩
    · have HD9 := Lib.hid (HFIN.out T wr HS.out.seen (HW.out.done) HB.out)
      have v1 : wr.cell? ⟨N + 1, 0, none⟩ = some (.slice (some ⟨N, 0, none⟩) n n) := (cell_of_row wr (N + 1) 0 _ _ _ HS.out.v1).trans rfl
      clear HS HW hrow hv2
      go_wp2
      exact bodyPost_ret (v := .slice (some ⟨N, 0, none⟩) n n) (by simp [results, Try.results32, go_sem, *]) rfl HD9.out
    · have hWx : W = W' ++ [x] := by simpa using hWx
      subst hWx
      obtain ⟨ln, hln9⟩ : ∃ ln, W'.length = ln := ⟨_, rfl⟩
      have hl1 : (W' ++ [x]).length = ln + 1 := by rw [List.length_append, List.length_singleton, hln9]
      rw [hl1] at hrow v2 hgk hv2
      obtain ⟨g, c9, e9, hcell⟩ := row_cell hrow (by omega)
      cases e9
      have e0 : wr.cell? ⟨g, ln, none⟩ = some (.int .i64 (x : Nat)) := hcell ln _ (by
        unfold natsL
        rw [List.map_append, List.getElem?_append_right (by rw [List.length_map]; omega), List.length_map, hln9]; simp)
      have hxn := (HW.out.sound x (HW.out.wait x (by simp))).2
      have hxn2 : (x : Int) < n := by omega
      have hcap := row_cap hrow
      have hpos : decide (((ln : Int) + 1) > 0) = true := decide_eq_true (by omega)
      have e1 := (HV.out wr HB.out).cell hxn
      obtain ⟨ra, rc, hrv⟩ := (HV.out wr HB.out).form hxn
      rw [hrv] at e1
      have hlen := HW.out.len
      rw [hl1] at hlen
      have hfz : wr.frozen? ⟨N + 2, 0, none⟩ = false := frozen_row (j := 0) hv2
      have hpop := row_pop hrow hln9
      obtain ⟨w6, hw6⟩ : ∃ w6, wr.setCell ⟨N + 2, 0, none⟩ (.slice (some ⟨g, 0, none⟩) ln cp3) = w6 := ⟨_, rfl⟩
      have hS6 : RS w6 N n T (.slice (some ⟨g, 0, none⟩) ln cp3) W' := by
        have h1 := HS.out
        rw [← hw6]
        refine ⟨h1.seen.other (by show N ≠ N + 2; omega) _, by rw [Below.heap_setCell _ _ _ _ (show N + 1 ≠ N + 2 by omega)]; exact h1.v1, ?_, ?_, by have := h1.big; simpa using this⟩
        · rw [setCell_block hv2]; rfl
        · rw [hln9]
          exact row_same hpop fun q e => Below.heap_setCell _ _ _ _ (show q ≠ N + 2 by have := (hpop.lt q e).1; omega)
      have HB6 : Hid (Below N w w6) := Lib.hid (by rw [← hw6]; exact HB.out.setCell (p := ⟨N + 2, 0, none⟩) (by show N ≤ N + 2; omega) _)
      have e2 : w6.cell? ⟨b0, x, none⟩ = some (.slice ra (D x).length rc) := by
        have := (HV.out w6 HB6.out).cell hxn
        rw [hrv] at this; exact this
      obtain ⟨hd1, hd2⟩ := HD.out x hxn
      have HMEM := Lib.hid (toNats_mem (l := D x) fun y hy => (hd2 y hy).1)
      have HCALL := Lib.hid (reach1_any N n T W' (toNats (D x)) (.slice ra (D x).length rc) (.slice (some ⟨g, 0, none⟩) ln cp3) w w6 HB6.out (fun ws hb => by
        have := (HV.out ws hb).ints hxn fun y hy => (hd2 y hy).1
        rw [hrv] at this; exact this) (by simpa [toNats] using hd1) (fun y hy => by
        have := hd2 _ ((HMEM.out y).1 hy); omega) hn hS6 (by omega))
      have HLN := Lib.hid hln9
      clear hcell hrow hpop hS6 hd2 hv2 hrv hl1 hln9
      go_wp2_with (go_at_call 53; refine HCALL.out.mono ?_; rintro e w7 ⟨rfl, hr7⟩)
      obtain ⟨T', X', vw', hs7, hri7, hb7⟩ := hr7.out
      have hcnt := hri7.cnt
      have HS7 := Lib.hid hs7
      have HB7 := Lib.hid hb7
      have HW7 := Lib.hid (HW.out.go HMEM.out hri7)
      clear hr7 hs7 hri7 hb7 HCALL
      go_roundg (2 * unm n T' + (W' ++ X').length)
      case measure =>
        have := HLN.out
        rw [List.length_append]; omega
      case rel => exact ⟨T', W' ++ X', vw', rfl, HS7, HW7, HB7⟩
end Go.Proofs.Ytamgldhnfcikbaa
set_option maxRecDepth 100000
namespace Go.Proofs.Ytamgldhnfcikbaa
open Go.RowKit

theorem dests_range {m : List Sta} (hfit : ∀ s ∈ m, fitsB m.length s.arcs = true) {i : Nat} (hi : i < m.length) : ∀ x ∈ destsOf m i, 0 ≤ x ∧ x < m.length := by
  intro x hx
  rw [destsOf_at hi, List.mem_map] at hx
  obtain ⟨a, ha, rfl⟩ := hx
  obtain ⟨j, hj, rfl⟩ := List.mem_iff_getElem.1 ha
  have := fits_arc (hfit _ (List.getElem_mem hi)) hj
  exact ⟨this.2.1, by omega⟩
theorem reach_come {m : List Sta} (hfit : ∀ s ∈ m, fitsB m.length s.arcs = true) (h0 : 0 < m.length) (i : Nat) : ReachD (destsOf m) [0] i ↔ Come m i := by
  constructor
  · intro h
    have key : ∀ i, ReachD (destsOf m) [0] i → Come m i ∧ i < m.length := by
      intro i h
      induction h with
      | start h => rw [List.mem_singleton] at h; subst h; exact ⟨.first h0, h0⟩
      | step h hx ih =>
        have hr := dests_range hfit ih.2 _ hx
        rw [destsOf_at ih.2, List.mem_map] at hx
        obtain ⟨a, ha, he⟩ := hx
        have := Come.step ih.2 ha ih.1
        rw [he, Int.toNat_natCast] at this
        exact ⟨this, by omega⟩
    exact (key i h).1
  · intro h
    induction h with
    | first h => exact .start (by simp)
    | step h ha hd ih =>
      refine .step ih ?_
      rw [destsOf_at h, List.mem_map]
      obtain ⟨j, hj, rfl⟩ := List.mem_iff_getElem.1 ha
      have := fits_arc (hfit _ (List.getElem_mem h)) hj
      exact ⟨_, List.getElem_mem hj, by omega⟩
theorem leads_lt {m : List Sta} {i : Nat} (h : Leads m i) : i < m.length := by
  cases h with
  | acc h _ => exact h
  | step h _ _ => exact h
theorem reach_leads {m : List Sta} (hfit : ∀ s ∈ m, fitsB m.length s.arcs = true) {f : Nat → List Int} {c : Nat} (hT : Turn c m.length (destsOf m) f m.length 0) {l : List Nat} (hl : ∀ i, i ∈ l ↔ i < m.length ∧ accS m i ≠ 0) (i : Nat) :
    ReachD f l i ↔ Leads m i := by
  constructor
  · intro h
    induction h with
    | start h =>
      obtain ⟨h1, h2⟩ := (hl _).1 h
      rw [accS_at h1] at h2
      exact .acc h1 h2
    | step h hx ih =>
      have hi := leads_lt ih
      rcases ((hT _ hi).2 _).1 hx with ⟨a, ha, hd, e⟩ | ⟨_, hd⟩
      · have e2 : _ = a := Int.ofNat.inj e
        subst e2
        rw [destsOf_at ha, List.mem_map] at hd
        obtain ⟨x, hx, he⟩ := hd
        refine .step ha hx ?_
        rw [he, Int.toNat_natCast]; exact ih
      · simp at hd
  · intro h
    induction h with
    | acc h ha => exact .start ((hl _).2 ⟨h, by rw [accS_at h]; exact ha⟩)
    | step h ha hd ih =>
      have hk := leads_lt hd
      refine .step ih (((hT _ hk).2 _).2 (.inl ⟨_, h, ?_, rfl⟩))
      rw [destsOf_at h, List.mem_map]
      obtain ⟨j, hj, rfl⟩ := List.mem_iff_getElem.1 ha
      have := fits_arc (hfit _ (List.getElem_mem h)) hj
      exact ⟨_, List.getElem_mem hj, by omega⟩
theorem row_ints {w : World} {B : Nat} {v : Value} {l : List Nat} (h : w.ownsRow B 3 1 v l.length (natsL l)) : IntsIn w v l := by
  obtain ⟨a, c, rfl⟩ := row_form h
  refine ⟨a, c, rfl, fun i hi => ?_⟩
  obtain ⟨b, c2, e, hc⟩ := row_cell h (by omega)
  cases e
  exact ⟨b, 0, rfl, by rw [Nat.zero_add]; exact hc i _ (by simp [natsL, hi])⟩
def placesN (n : Nat) (g : Nat → Bool) : List Nat := (List.range n).filter g
theorem placesN_mem (n : Nat) (g : Nat → Bool) (i : Nat) : i ∈ placesN n g ↔ i < n ∧ g i = true := by simp [placesN]
theorem placesOf_nats (n : Nat) (g : Nat → Bool) : (placesOf n g).map (Value.int .i64) = natsL (placesN n g) := by
  unfold placesOf placesN natsL
  rw [List.map_map]; rfl
theorem placesOf_lenN (n : Nat) (g : Nat → Bool) : (placesOf n g).length = (placesN n g).length := by simp [placesOf, placesN]
theorem ints_zero (w : World) : IntsIn (w.alloc (.cells #[.int .i64 0] 3)) (.slice (some ⟨w.heap.size, 0, none⟩) 1 1) [0] :=
  ⟨some ⟨w.heap.size, 0, none⟩, 1, rfl, fun i hi => by
    have : i = 0 := by simpa using hi
    subst this
    exact ⟨w.heap.size, 0, rfl, (cell_of_row _ w.heap.size 0 _ _ _ (heap_alloc_new w _)).trans rfl⟩⟩
def PUse (m : List Sta) (N : Nat) (w : World) (e : Ending) (w' : World) : Prop := Hid (Below N w w') ∧ ((m.length = 0 ∧ e = .returned (.slice none 0 0)) ∨ (0 < m.length ∧ ∃ b S, e = .returned (.slice (some ⟨b, 0, none⟩) m.length m.length) ∧ N ≤ b ∧ Hid (Blk w' b m.length S) ∧ Hid (∀ s, s < m.length → (S s = true ↔ Leads m s ∧ Come m s))))
set_option linter.unusedSimpArgs false in
set_option maxHeartbeats 8000000 in
theorem puseful_any (v : Value) (m : List Sta) (w : World) (hv : MachAt w v m) (hl : ∀ s ∈ m, s.arcs.length < 1000000) (hm : Mays m) :
    Calls Try.prog 11 #[v] w (PUse (soundS m) w.heap.size w) := by
  have HR := Lib.hid (show Calls Try.prog 30 #[v] w fun e w' => ∃ u, e = .returned u ∧ Hid (MachAt w u (soundS m)) ∧ Hid (Below w.heap.size w w') from sound_any v m w hv (fun s hs => by have := hl s hs; omega) hm)
  obtain ⟨hn, hfit⟩ := check_fits (soundS_ok m)
  have hl2 := soundS_sub hl
  clear hv hl hm
  generalize soundS m = n at *
  obtain ⟨N, hN⟩ : ∃ N, w.heap.size = N := ⟨_, rfl⟩
  rw [hN]
  by_cases h0 : n.length = 0
  · have hd : decide ((n.length : Int) = 0) = true := decide_eq_true (by omega)
    have hz : n = [] := List.eq_nil_of_length_eq_zero h0
    subst hz
    clear hd h0
    go_enter Try.func11, Try.ntmps11
    go_wp2_with (go_at_call 30; refine HR.out.mono ?_; rintro e w5 ⟨u, rfl, hu, hb⟩; have HU := Lib.hid (hu.out.below hb.out); have HB5 := Lib.hid hb.out; obtain ⟨au, cu, rfl⟩ := hu.out.len; clear hu hb)
    exact bodyPost_ret (v := .slice none 0 0) (by simp [results, Try.results11, go_sem]) rfl ⟨by rw [← hN]; exact HB5, .inl ⟨rfl, rfl⟩⟩
  · have hpos : 0 < n.length := by omega
    have hz : ((n.length : Int) == 0) = false := by rw [beq_eq_false_iff_ne]; omega
    have HWA := Lib.hid (fun (u : Value) (w5 : World) (hu : MachAt w5 u n) => ways_any u n w5 hu hn (fun s hs => by have := hl2 s hs; omega))
    have HAC := Lib.hid (fun (u : Value) (w5 : World) (hu : MachAt w5 u n) => accepting_any u n w5 hu hn)
    have hlD : ∀ i, i < n.length → (destsOf n i).length ≤ 1000000 ∧ ∀ x ∈ destsOf n i, 0 ≤ x ∧ x < n.length := fun i hi => ⟨by rw [destsOf_at hi, List.length_map]; exact Nat.le_of_lt (hl2 _ (List.getElem_mem hi)), dests_range hfit hi⟩
    have HTU := Lib.hid (fun (b : Nat) (V : Nat → Value) (w5 : World) (hr : RR w5 3 44 1 b (b + 1) n.length gI (destsOf n) V) => turned_any 1000000 b (b + 1) n.length (destsOf n) V w5 hr hn (Nat.le_refl _) hlD)
    have HR1 := Lib.hid (fun (b : Nat) (V : Nat → Value) (vl : Value) (w5 : World) (hr : RR w5 3 44 1 b (b + 1) n.length gI (destsOf n) V) (hli : IntsIn w5 vl [0]) => reached_any b (b + 1) n.length (destsOf n) V [0] vl w5 hr hn (fun i hi => ⟨by have := (hlD i hi).1; omega, (hlD i hi).2⟩) hli (by decide) (fun x hx => by rw [List.mem_singleton] at hx; omega))
    have HCOME := Lib.hid (reach_come hfit hpos)
    have HLEAD := Lib.hid (fun (f : Nat → List Int) (hT : Turn 1000000 n.length (destsOf n) f n.length 0) => reach_leads hfit hT (l := placesN n.length (endsB n)) (fun i => by rw [placesN_mem]; unfold endsB; rw [decide_eq_true_eq]))
    have HTD := Lib.hid (show ∀ f, Turn 1000000 n.length (destsOf n) f n.length 0 → ∀ i, i < n.length → (f i).length < 1000000000000 ∧ ∀ x ∈ f i, 0 ≤ x ∧ x < n.length from fun f hT i hi => by
      obtain ⟨h1, h2⟩ := hT i hi
      refine ⟨by omega, fun x hx => ?_⟩
      rcases (h2 x).1 hx with ⟨a, ha, _, rfl⟩ | ⟨_, h3⟩
      · omega
      · simp at h3)
    clear hlD hl2
    have HR2 := Lib.hid (fun (b : Nat) (f : Nat → List Int) (V : Nat → Value) (vl : Value) (w5 : World) (hT : Turn 1000000 n.length (destsOf n) f n.length 0) (hr : RR w5 3 44 1 b (b + 1) n.length gI f V) (hli : IntsIn w5 vl (placesN n.length (endsB n))) => reached_any b (b + 1) n.length f V (placesN n.length (endsB n)) vl w5 hr hn (HTD.out f hT) hli (by have := placesOf_len n.length (endsB n); rw [placesOf_lenN] at this; omega) (fun x hx => ((placesN_mem _ _ _).1 hx).1))
    go_enter Try.func11, Try.ntmps11
    go_upto_region 6 with (first
      | (go_at_call 30; with_reducible refine HR.out.mono ?_; rintro e w5 ⟨u, rfl, hu, hb⟩; have HU := Lib.hid (hu.out.below hb.out); have HB5 := Lib.hid hb.out; obtain ⟨au, cu, rfl⟩ := hu.out.len; clear hu hb)
      | (go_at_call 31; refine (HWA.out _ w5 HU.out).mono ?_; rintro e w6 ⟨b1, V1, rfl, hr1, hb1, hb⟩; have HR6 := Lib.hid (hr1.out.below (new_one w6 (.cells #[.int .i64 0] 3))); have HB6 := Lib.hid hb.out; have HI6 : Hid (IntsIn (w6.alloc (.cells #[.int .i64 0] 3)) (.slice (some ⟨w6.heap.size, 0, none⟩) 1 1) [0]) := Lib.hid (ints_zero w6); clear hr1 hb)
      | (go_at_call 32; refine (HR1.out b1 V1 _ _ HR6.out HI6.out).mono ?_; rintro e w7 ⟨S1, rfl, hs1, hc1, hb⟩; have HS7 := Lib.hid hs1.out; have HC7 := Lib.hid hc1.out; have HB7 := Lib.hid hb.out; have HR7 := Lib.hid (HR6.out.below hb.out); clear hs1 hc1 hb))
    obtain ⟨u1, hu1⟩ : ∃ u1, (w6.alloc (.cells #[.int .i64 0] 3)).heap.size = u1 := ⟨_, rfl⟩
    have hs6 := HB6.out.size
    have hs5 := HB5.out.size
    have hs7 := HB7.out.size
    have hu1w : w6.heap.size + 1 = u1 := by rw [← hu1]; simp
    have HU7 := Lib.hid (HU.out.below ((HB6.out.trans ((new_one w6 (.cells #[.int .i64 0] 3)).mono hs6)).trans (HB7.out.mono (by rw [hu1]; omega))))
    have HBN7 : Hid (Below N w w7) := Lib.hid (((by rw [← hN]; exact HB5.out : Below N w w5).trans (HB6.out.mono (by omega))).trans (((new_one w6 (.cells #[.int .i64 0] 3)).mono (by omega)).trans (HB7.out.mono (by rw [hu1]; omega))))
    rw [hu1] at HS7 HB7
    try rw [hu1]
    have hblt := HS7.out.lt
    have hN1 : N ≤ u1 := by omega
    clear HR6 HI6 HB6 HB5 HR HR1 HWA hu1 HU
    rw [hu1w]
    go_wp2_with (first
      | (go_at_call 33; refine (HTU.out b1 V1 w7 HR7.out).mono ?_; rintro e w8 ⟨b2, f, V2, rfl, hr2, ht2, hb2, hb⟩; have HR8 := Lib.hid hr2.out; have HT8 := Lib.hid ht2.out; have HB8 := Lib.hid hb.out; have HU8 := Lib.hid (HU7.out.below hb.out); clear hr2 ht2 hb)
      | (go_at_call 34; refine (HAC.out _ w8 HU8.out).mono ?_; rintro e w9 ⟨ua, rfl, hra, hb⟩; have HIA := Lib.hid (row_ints (by have := hra.out; rw [placesOf_nats, placesOf_lenN] at this; exact this)); have HB9 := Lib.hid hb.out; have HR9 := Lib.hid (HR8.out.below hb.out); clear hra hb)
      | (go_at_call 32; refine (HR2.out b2 f V2 _ w9 HT8.out HR9.out HIA.out).mono ?_; rintro e w10 ⟨S2, rfl, hs2, hc2, hb⟩; have HS10 := Lib.hid hs2.out; have HC10 := Lib.hid hc2.out; have HB10 := Lib.hid hb.out; clear hs2 hc2 hb))
    have hs8 := HB8.out.size
    have hs9 := HB9.out.size
    have hs10 := HB10.out.size
    have HBX : Below w7.heap.size w7 w10 := (HB8.out.trans (HB9.out.mono hs8)).trans (HB10.out.mono (by omega))
    have HT0 := Lib.hid (HS7.out.below HBX)
    have HBN := Lib.hid (HBN7.out.trans (HBX.mono (by omega)))
    obtain ⟨u2, hu2⟩ : ∃ u2, w9.heap.size = u2 := ⟨_, rfl⟩
    rw [hu2] at HS10
    try rw [hu2]
    have hne : u1 ≠ u2 := by omega
    have HFI : Hid (∀ s, s < n.length → ((S1 s && S2 s) = true ↔ Leads n s ∧ Come n s)) := Lib.hid (fun s hs => by
      rw [Bool.and_eq_true, HC7.out, HC10.out, HCOME.out, HLEAD.out f HT8.out]
      exact ⟨fun h => ⟨h.2, h.1⟩, fun h => ⟨h.2, h.1⟩⟩)
    have HB0 : Hid (Blk w10 u1 n.length fun y => if y < 0 then S1 y && S2 y else S1 y) := Lib.hid (HT0.out.congr fun i _ => by rw [if_neg (by omega)])
    clear HS7 HC7 HB7 HR7 HU7 HBN7 HR8 HT8 HB8 HU8 HIA HB9 HR9 HC10 HB10 HBX HT0 HTU HAC HR2 HCOME HLEAD HTD hu2
    go_loopw [23] (fun z wr => ∃ i : Nat, z = .int .i64 i ∧ i ≤ n.length ∧ Hid (Blk wr u1 n.length fun y => if y < i then S1 y && S2 y else S1 y) ∧ Hid (Blk wr u2 n.length S2) ∧ Hid (Below N w wr)) (fun z _ => n.length - (intOf z).toNat)
    case atStart => exact ⟨0, rfl, Nat.zero_le _, HB0, HS10, HBN⟩
    case round =>
      clear HB0 HS10 HBN
      obtain ⟨i, rfl, hi, HS, HT, HB⟩ := hrel
      by_cases hlt : i < n.length
      · have hdd : decide ((i : Int) < n.length) = true := decide_eq_true (by omega)
        have hil : (i : Int) < n.length := by omega
        have cS := HS.out.cell hlt
        rw [if_neg (Nat.lt_irrefl i)] at cS
        have cT := HT.out.cell hlt
        have hfz : wr.frozen? ⟨u1, i, none⟩ = false := HS.out.frozen
        have HNS := Lib.hid (HS.out.set (k := i) (g := fun y => if y < i + 1 then S1 y && S2 y else S1 y) (v := S1 i && S2 i) (by rw [if_pos (by omega)]) (fun y _ hne => by
          by_cases h : y < i
          · rw [if_pos h, if_pos (by omega)]
          · rw [if_neg h, if_neg (by omega)]))
        have HNT := fun v => Lib.hid (HT.out.other (a := ⟨u1, i, none⟩) (fun e => hne e.symm) v)
        have HNB := fun v => Lib.hid (HB.out.setCell (p := ⟨u1, i, none⟩) hN1 v)
        generalize S2 i = ti at *
        cases hSi : S1 i
        · rw [hSi] at cS HNS
          rw [Bool.false_and] at HNS
          have HNT := HNT (.bool false)
          have HNB := HNB (.bool false)
          clear hSi
          go_wp2
          go_roundw
          case rel => exact ⟨i + 1, num_succ i, by omega, HNS, HNT, HNB⟩
          case measure => simp [intOf]; omega
        · rw [hSi] at cS HNS
          rw [Bool.true_and] at HNS
          have HNT := HNT (.bool ti)
          have HNB := HNB (.bool ti)
          clear hSi
          go_wp2
          go_roundw
          case rel => exact ⟨i + 1, num_succ i, by omega, HNS, HNT, HNB⟩
          case measure => simp [intOf]; omega
      · obtain rfl : i = n.length := by omega
        have hdd : decide ((n.length : Int) < n.length) = false := by simp
        have HSE := Lib.hid (HS.out.congr (g := fun y => S1 y && S2 y) fun i hi => by rw [if_pos hi])
        go_wp2
        exact bodyPost_ret (v := .slice (some ⟨u1, 0, none⟩) n.length n.length) (by simp [results, Try.results11, go_sem, *]) rfl ⟨HB, .inr ⟨hpos, u1, _, rfl, hN1, HSE, HFI⟩⟩
end Go.Proofs.Ytamgldhnfcikbaa
set_option maxRecDepth 100000
namespace Go.Proofs.Ytamgldhnfcikbaa
open Go.RowKit

def upA (P : List Arc3) : List Arc3 := P.filter fun a => decide (0 ≤ a.dest)
theorem upA_snoc (P : List Arc3) (a : Arc3) : upA (P ++ [a]) = upA P ++ (if 0 ≤ a.dest then [a] else []) := by
  unfold upA
  rw [List.filter_append]
  by_cases h : 0 ≤ a.dest
  · rw [if_pos h]; simp [h]
  · rw [if_neg h]; simp [h]
structure Runs (f : Nat → Int) (P : List Arc3) (lo b : Nat) : Prop where
  le : lo ≤ b
  fin : b = 256 → lo = 256
  same : ∀ x, lo ≤ x → x ≤ b → f x = f lo
  done : arcsUp f b = upA P ++ (if lo < b ∧ 0 ≤ f lo then [⟨lo, b - 1, f lo⟩] else [])
  last : ∀ x, (upA P).getLast? = some x → x.hi < lo ∧ (lo < 256 → x.hi + 1 = lo → x.dest ≠ f lo)
  len : P.length ≤ lo
theorem Runs.start (f : Nat → Int) : Runs f [] 0 0 := ⟨Nat.le_refl _, fun h => (by omega), fun x _ h => (by rw [Nat.le_zero.1 h]), rfl, fun x h => (by cases h), Nat.le_refl _⟩
theorem Runs.put {f : Nat → Int} {P : List Arc3} {lo b : Nat} (h : Runs f P lo b) (hb : b < 256) : arcsUp f (b + 1) = upA P ++ (if 0 ≤ f lo then [⟨lo, b, f lo⟩] else []) := by
  have hf := h.same b h.le (Nat.le_refl _)
  have e : arcsUp f (b + 1) = arcPut (arcsUp f b) b (f b) := rfl
  rw [e, hf]
  by_cases h0 : 0 ≤ f lo
  · rw [if_pos h0]
    have hd := h.done
    by_cases hl : lo < b
    · rw [if_pos ⟨hl, h0⟩] at hd
      rw [hd, arcPut_same (t := f lo) (x := ⟨lo, b - 1, f lo⟩) (by omega) ⟨by show b - 1 + 1 = b; omega, rfl⟩]
    · have hlb : lo = b := by have := h.le; omega
      rw [if_neg (fun hh => hl hh.1), List.append_nil] at hd
      rw [hd]
      rcases arc_cases (upA P) with h2 | ⟨l', x, h2⟩
      · rw [h2, arcPut_nil (by omega)]; subst hlb; rfl
      · have h3 := (h.last x (by rw [h2]; simp)).2 (by omega)
        rw [h2, arcPut_new (by omega) (fun hx => h3 (by omega) hx.2)]
        subst hlb; rfl
  · rw [if_neg h0, arcPut_neg (by omega), h.done, if_neg (fun hh => h0 hh.2)]
theorem Runs.cont {f : Nat → Int} {P : List Arc3} {lo b : Nat} (h : Runs f P lo b) (hb : b < 255) (he : f (b + 1) = f lo) : Runs f P lo (b + 1) := by
  refine ⟨by have := h.le; omega, fun hh => by omega, fun x h1 h2 => ?_, ?_, h.last, h.len⟩
  · rcases Nat.lt_or_ge b x with h3 | h3
    · have : x = b + 1 := by omega
      rw [this, he]
    · exact h.same x h1 h3
  · rw [h.put (by omega)]
    have := h.le
    by_cases h0 : 0 ≤ f lo
    · rw [if_pos h0, if_pos ⟨by omega, h0⟩]; rfl
    · rw [if_neg h0, if_neg (fun hh => h0 hh.2)]
theorem Runs.emit {f : Nat → Int} {P : List Arc3} {lo b : Nat} (h : Runs f P lo b) (hb : b < 256) (he : b = 255 ∨ f (b + 1) ≠ f lo) : Runs f (P ++ [⟨lo, b, f lo⟩]) (b + 1) (b + 1) := by
  have hle := h.le
  refine ⟨Nat.le_refl _, fun hh => hh, fun x h1 h2 => by rw [show x = b + 1 by omega], ?_, fun x hx => ?_, ?_⟩
  · have hno : ¬ (b + 1 < b + 1 ∧ 0 ≤ f (b + 1)) := by omega
    rw [h.put hb, upA_snoc, if_neg hno, List.append_nil]
  · rw [upA_snoc] at hx
    by_cases h0 : 0 ≤ f lo
    · rw [if_pos h0, List.getLast?_append, List.getLast?_singleton, Option.some_or] at hx
      cases hx
      exact ⟨Nat.lt_succ_self _, fun h1 _ h3 => by
        rcases he with he | he
        · omega
        · exact he h3.symm⟩
    · rw [if_neg h0, List.append_nil] at hx
      have := (h.last x hx).1
      exact ⟨by omega, fun _ h2 => by omega⟩
  · have := h.len
    rw [List.length_append, List.length_singleton]; omega
theorem Runs.all {f : Nat → Int} {P : List Arc3} {lo : Nat} (h : Runs f P lo 256) : upA P = arcsS f := by
  have hd := h.done
  rw [if_neg (fun hh => by have := h.fin rfl; omega), List.append_nil] at hd
  exact hd.symm
end Go.Proofs.Ytamgldhnfcikbaa
