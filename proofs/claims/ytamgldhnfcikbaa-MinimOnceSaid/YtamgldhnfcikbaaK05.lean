/- Texts that a proof rests on: Contracts: whether arcs, and a machine, may be. | Contracts: where the reference goes. | Contracts: the reference's Whole. -/
import Derived.Test.YtamgldhnfcikbaaK04
set_option maxRecDepth 100000
namespace Go.Proofs.Ytamgldhnfcikbaa
open List (getElem_toArray getElem_cons_succ getElem_cons_zero setIfInBounds_toArray set_cons_zero set_cons_succ)
open Go.RowKit

theorem ArcsAt.at {w : World} {v : Value} {l : List Arc3} {a : Option Addr} {c : Nat} (h : ArcsAt w v l) (hv : v = .slice a l.length c) {i : Nat} (hi : i < l.length) : ∃ b o, a = some ⟨b, o, none⟩ ∧ w.cell? ⟨b, o + i * 3, none⟩ = some (.int .u8 l[i].lo) ∧ w.cell? ⟨b, o + i * 3 + 1, none⟩ = some (.int .u8 l[i].hi) ∧ w.cell? ⟨b, o + i * 3 + 2, none⟩ = some (.int .i64 l[i].dest) := by
  obtain ⟨a', c', e, h1⟩ := h
  rw [hv] at e; cases e
  exact h1 i hi
theorem MachAt.at {w : World} {v : Value} {m : List Sta} {a : Option Addr} {c : Nat} (h : MachAt w v m) (hv : v = .slice a m.length c) {i : Nat} (hi : i < m.length) : ∃ b o av, a = some ⟨b, o, none⟩ ∧ w.cell? ⟨b, o + i * 2, none⟩ = some (.int .u64 m[i].acc) ∧ w.cell? ⟨b, o + i * 2 + 1, none⟩ = some av ∧ ArcsAt w av m[i].arcs := by
  obtain ⟨a', c', e, h1⟩ := h
  rw [hv] at e; cases e
  exact h1 i hi
set_option linter.unusedSimpArgs false in
set_option maxHeartbeats 4000000 in
theorem arcsFit_any (v : Value) (l : List Arc3) (n : Nat) (w : World) (hv : ArcsAt w v l) (hl : l.length < 9223372036854775808) (hm : ∀ a ∈ l, a.may) :
    Calls Try.prog 64 #[v, .int .i64 n] w fun e w' => e = .returned (.bool (fitsB n l)) ∧ Below w.heap.size w w' := by
  have HV := Lib.hid (show ∀ wr, Below w.heap.size w wr → ArcsAt wr v l from fun wr hb => hv.below hb)
  obtain ⟨av, cv, rfl⟩ := hv.len
  have mixed : Try.prog.follows .mixedOrders = true := by kernel_rfl
  have HM := Lib.hid hm
  clear hv hm
  go_enter Try.func64, Try.ntmps64
  go_wp2
  go_loopw [9] (fun z wr => ∃ k : Nat, z = .int .i64 k ∧ k ≤ l.length ∧ Hid (∀ i (h : i < l.length), i < k → fitAt n l i l[i] = true) ∧ Hid (Below w.heap.size w wr)) (fun z _ => l.length - (intOf z).toNat)
  case atStart => exact ⟨0, rfl, Nat.zero_le _, Lib.hid (fun i _ h => by omega), Lib.hid (Below.refl _ _)⟩
  case round =>
    obtain ⟨k, rfl, hk, HF, HB⟩ := hrel
    by_cases hlt : k < l.length
    · have hdd : decide ((k : Int) < l.length) = true := decide_eq_true (by omega)
      obtain ⟨b, o, rfl, e0, e1, e2⟩ := (HV.out wr HB.out).at rfl hlt
      have hma := HM.out l[k] (List.getElem_mem hlt)
      have HNO := Lib.hid (show fitAt n l k l[k] = false → fitsB n l = false from fits_not hlt)
      have HYES := Lib.hid (show fitAt n l k l[k] = true → ∀ i (h : i < l.length), i < k + 1 → fitAt n l i l[i] = true from fun h i hi hik => by
        rcases Nat.lt_succ_iff_lt_or_eq.1 hik with h1 | rfl
        · exact HF.out i hi h1
        · exact h)
      have hxx : ∀ j, (hj : j + 1 = k) → ∃ x : Arc3, x.may ∧ prevOk l k l[k] = behindB x l[k] ∧ ∀ W, Below w.heap.size w W → W.cell? ⟨b, o + j * 3, none⟩ = some (.int .u8 x.lo) ∧ W.cell? ⟨b, o + j * 3 + 1, none⟩ = some (.int .u8 x.hi) ∧ W.cell? ⟨b, o + j * 3 + 2, none⟩ = some (.int .i64 x.dest) := fun j hj => by
        subst hj
        refine ⟨l[j], HM.out _ (List.getElem_mem _), prevOk_succ (by omega) _, fun W hW => ?_⟩
        obtain ⟨b', o', e, h0, h1, h2⟩ := (HV.out W hW).at rfl (show j < l.length by omega)
        cases e
        exact ⟨h0, h1, h2⟩
      have HX := Lib.hid hxx
      clear hxx HF
      generalize l[k] = a at *
      obtain ⟨hm1, hm2, _, _⟩ := hma
      go_upto_region 4 with fail
      obtain ⟨g, hg⟩ : ∃ g, wr.heap.size = g := ⟨_, rfl⟩
      obtain ⟨w5, hw5⟩ : ∃ w5, wr.alloc (.cells #[.int .u8 a.lo, .int .u8 a.hi, .int .i64 a.dest] 38) = w5 := ⟨_, rfl⟩
      have hx5 : w5.heap[g]? = some (.cells #[.int .u8 a.lo, .int .u8 a.hi, .int .i64 a.dest] 38 (0, 0)) := by rw [← hw5, ← hg]; exact heap_alloc_new wr _
      have hb5 : Below w.heap.size w w5 := HB.out.trans (by rw [← hw5]; exact (new_one wr _).mono HB.out.size)
      have HB5 := Lib.hid hb5
      have a0 : w5.drew.cell? ⟨g, 0, none⟩ = some (.int .u8 a.lo) := (cell_of_row w5 g 0 _ _ _ hx5).trans rfl
      have a1 : w5.drew.cell? ⟨g, 1, none⟩ = some (.int .u8 a.hi) := (cell_of_row w5 g 1 _ _ _ hx5).trans rfl
      have a2 : w5.drew.cell? ⟨g, 2, none⟩ = some (.int .i64 a.dest) := (cell_of_row w5 g 2 _ _ _ hx5).trans rfl
      have hbd : Below w.heap.size w w5.drew := hb5.trans ((Below.refl _ w5).drew.mono hb5.size)
      have HBD := Lib.hid hbd
      rw [hw5, hg]
      clear hw5 hg hx5 e0 e1 e2 hb5 HB
      by_cases h1 : a.hi < a.lo
      · have d1 : decide ((a.lo : Int) > a.hi) = true := decide_eq_true (by omega)
        have d2 : decide ((a.hi : Int) < a.lo) = true := decide_eq_true (by omega)
        have HR := Lib.hid (HNO.out (by unfold fitAt arcOk; rw [decide_eq_false (show ¬ a.lo ≤ a.hi by omega)]; rfl))
        clear HNO HYES HX
        refine region_goes 126 26 rfl (fun W => W.cell? ⟨g, 0, none⟩ = some (.int .u8 a.lo) ∧ W.cell? ⟨g, 1, none⟩ = some (.int .u8 a.hi) ∧ W.cell? ⟨g, 2, none⟩ = some (.int .i64 a.dest)) mixed ⟨a0, a1, a2⟩ (fun hHeld => ?_)
        clear a0 a1 a2
        refine goes_take0 (i := 0) (v := ?hv1) rfl (by kernel_rfl) (by kernel_rfl) (by kernel_rfl) rfl (fun _ _ _ h => h) (Or.inl ⟨by rfl, ?hy1⟩) (by assumption) ?hr1
        case hy1 => (intro W9 hW9; obtain ⟨k0, k1, k2⟩ := hW9; first | (go_simp; done) | (go_simp; with_reducible rfl))
        simp only [Act.put, getElem_toArray, getElem_cons_succ, getElem_cons_zero, setIfInBounds_toArray, set_cons_zero, set_cons_succ]
        refine goes_take0 (i := 1) (v := ?hv2) rfl (by kernel_rfl) (by kernel_rfl) (by kernel_rfl) rfl (fun _ _ _ h => h) (Or.inl ⟨by rfl, ?hy2⟩) (by assumption) ?hr2
        case hy2 => (intro W9 hW9; obtain ⟨k0, k1, k2⟩ := hW9; first | (go_simp; done) | (go_simp; with_reducible rfl))
        simp only [Act.put, getElem_toArray, getElem_cons_succ, getElem_cons_zero, setIfInBounds_toArray, set_cons_zero, set_cons_succ]
        refine goes_take0 (i := 2) (v := ?hv3) rfl (by kernel_rfl) (by kernel_rfl) (by kernel_rfl) rfl (fun _ _ _ h => h) (Or.inl ⟨by rfl, ?hy3⟩) (by assumption) ?hr3
        case hy3 => (intro W9 hW9; obtain ⟨k0, k1, k2⟩ := hW9; first | (go_simp; done) | (go_simp; with_reducible rfl))
        simp only [Act.put, getElem_toArray, getElem_cons_succ, getElem_cons_zero, setIfInBounds_toArray, set_cons_zero, set_cons_succ]
        refine goes_take0 (i := 3) (v := ?hv4) rfl (by kernel_rfl) (by kernel_rfl) (by kernel_rfl) rfl (fun _ _ _ h => h) (Or.inl ⟨by rfl, ?hy4⟩) (by assumption) ?hr4
        case hy4 => (intro W9 hW9; obtain ⟨k0, k1, k2⟩ := hW9; first | (go_simp; done) | (go_simp; with_reducible rfl))
        simp only [Act.put, getElem_toArray, getElem_cons_succ, getElem_cons_zero, setIfInBounds_toArray, set_cons_zero, set_cons_succ]
        refine goes_take0 (i := 4) (v := (.bool true)) rfl (by kernel_rfl) (by kernel_rfl) (by kernel_rfl) rfl (fun _ _ _ h => h) (Or.inl ⟨by rfl, ?hy5⟩) (by assumption) ?hr5
        case hy5 => (intro W9 hW9; obtain ⟨k0, k1, k2⟩ := hW9; first | (go_simp; done) | (go_simp; with_reducible rfl))
        simp only [Act.put, getElem_toArray, getElem_cons_succ, getElem_cons_zero, setIfInBounds_toArray, set_cons_zero, set_cons_succ]
        refine goes_take0 (i := 5) (v := (.bool true)) rfl (by kernel_rfl) (by kernel_rfl) (by kernel_rfl) rfl (fun _ _ _ h => h) (Or.inl ⟨by rfl, ?hy6⟩) (by assumption) ?hr6
        case hy6 => (intro W9 hW9; obtain ⟨k0, k1, k2⟩ := hW9; first | (go_simp; done) | (go_simp; with_reducible rfl))
        simp only [Act.put, getElem_toArray, getElem_cons_succ, getElem_cons_zero, setIfInBounds_toArray, set_cons_zero, set_cons_succ]
        refine goes_take0 (i := 6) (v := undef) rfl (by kernel_rfl) (by kernel_rfl) (by kernel_rfl) rfl (fun _ _ _ h => h) (Or.inr ⟨by rfl, rfl⟩) (by assumption) ?_
        simp only [Act.put, getElem_toArray, getElem_cons_succ, getElem_cons_zero, setIfInBounds_toArray, set_cons_zero, set_cons_succ]
        refine goes_take0 (i := 7) (v := undef) rfl (by kernel_rfl) (by kernel_rfl) (by kernel_rfl) rfl (fun _ _ _ h => h) (Or.inr ⟨by rfl, rfl⟩) (by assumption) ?_
        simp only [Act.put, getElem_toArray, getElem_cons_succ, getElem_cons_zero, setIfInBounds_toArray, set_cons_zero, set_cons_succ]
        refine goes_take0 (i := 8) (v := undef) rfl (by kernel_rfl) (by kernel_rfl) (by kernel_rfl) rfl (fun _ _ _ h => h) (Or.inr ⟨by rfl, rfl⟩) (by assumption) ?_
        simp only [Act.put, getElem_toArray, getElem_cons_succ, getElem_cons_zero, setIfInBounds_toArray, set_cons_zero, set_cons_succ]
        refine goes_take0 (i := 9) (v := undef) rfl (by kernel_rfl) (by kernel_rfl) (by kernel_rfl) rfl (fun _ _ _ h => h) (Or.inr ⟨by rfl, rfl⟩) (by assumption) ?_
        simp only [Act.put, getElem_toArray, getElem_cons_succ, getElem_cons_zero, setIfInBounds_toArray, set_cons_zero, set_cons_succ]
        refine goes_take0 (i := 10) (v := undef) rfl (by kernel_rfl) (by kernel_rfl) (by kernel_rfl) rfl (fun _ _ _ h => h) (Or.inr ⟨by rfl, rfl⟩) (by assumption) ?_
        simp only [Act.put, getElem_toArray, getElem_cons_succ, getElem_cons_zero, setIfInBounds_toArray, set_cons_zero, set_cons_succ]
        refine goes_take0 (i := 11) (v := (.bool true)) rfl (by kernel_rfl) (by kernel_rfl) (by kernel_rfl) rfl (fun _ _ _ h => h) (Or.inl ⟨by rfl, ?hy7⟩) (by assumption) ?hr7
        case hy7 => (intro W9 hW9; obtain ⟨k0, k1, k2⟩ := hW9; first | (go_simp; done) | (go_simp; with_reducible rfl))
        simp only [Act.put, getElem_toArray, getElem_cons_succ, getElem_cons_zero, setIfInBounds_toArray, set_cons_zero, set_cons_succ]
        refine goes_take0 (i := 12) (v := (.bool true)) rfl (by kernel_rfl) (by kernel_rfl) (by kernel_rfl) rfl (fun _ _ _ h => h) (Or.inl ⟨by rfl, ?hy8⟩) (by assumption) ?hr8
        case hy8 => (intro W9 hW9; obtain ⟨k0, k1, k2⟩ := hW9; first | (go_simp; done) | (go_simp; with_reducible rfl))
        simp only [Act.put, getElem_toArray, getElem_cons_succ, getElem_cons_zero, setIfInBounds_toArray, set_cons_zero, set_cons_succ]
        refine goes_take0 (i := 13) (v := undef) rfl (by kernel_rfl) (by kernel_rfl) (by kernel_rfl) rfl (fun _ _ _ h => h) (Or.inr ⟨by rfl, rfl⟩) (by assumption) ?_
        simp only [Act.put, getElem_toArray, getElem_cons_succ, getElem_cons_zero, setIfInBounds_toArray, set_cons_zero, set_cons_succ]
        refine goes_take0 (i := 14) (v := undef) rfl (by kernel_rfl) (by kernel_rfl) (by kernel_rfl) rfl (fun _ _ _ h => h) (Or.inr ⟨by rfl, rfl⟩) (by assumption) ?_
        simp only [Act.put, getElem_toArray, getElem_cons_succ, getElem_cons_zero, setIfInBounds_toArray, set_cons_zero, set_cons_succ]
        refine goes_take0 (i := 15) (v := undef) rfl (by kernel_rfl) (by kernel_rfl) (by kernel_rfl) rfl (fun _ _ _ h => h) (Or.inr ⟨by rfl, rfl⟩) (by assumption) ?_
        simp only [Act.put, getElem_toArray, getElem_cons_succ, getElem_cons_zero, setIfInBounds_toArray, set_cons_zero, set_cons_succ]
        refine goes_take0 (i := 16) (v := undef) rfl (by kernel_rfl) (by kernel_rfl) (by kernel_rfl) rfl (fun _ _ _ h => h) (Or.inr ⟨by rfl, rfl⟩) (by assumption) ?_
        simp only [Act.put, getElem_toArray, getElem_cons_succ, getElem_cons_zero, setIfInBounds_toArray, set_cons_zero, set_cons_succ]
        refine goes_take0 (i := 17) (v := undef) rfl (by kernel_rfl) (by kernel_rfl) (by kernel_rfl) rfl (fun _ _ _ h => h) (Or.inr ⟨by rfl, rfl⟩) (by assumption) ?_
        simp only [Act.put, getElem_toArray, getElem_cons_succ, getElem_cons_zero, setIfInBounds_toArray, set_cons_zero, set_cons_succ]
        refine goes_take0 (i := 18) (v := undef) rfl (by kernel_rfl) (by kernel_rfl) (by kernel_rfl) rfl (fun _ _ _ h => h) (Or.inr ⟨by rfl, rfl⟩) (by assumption) ?_
        simp only [Act.put, getElem_toArray, getElem_cons_succ, getElem_cons_zero, setIfInBounds_toArray, set_cons_zero, set_cons_succ]
        refine goes_take0 (i := 19) (v := undef) rfl (by kernel_rfl) (by kernel_rfl) (by kernel_rfl) rfl (fun _ _ _ h => h) (Or.inr ⟨by rfl, rfl⟩) (by assumption) ?_
        simp only [Act.put, getElem_toArray, getElem_cons_succ, getElem_cons_zero, setIfInBounds_toArray, set_cons_zero, set_cons_succ]
        refine goes_take0 (i := 20) (v := undef) rfl (by kernel_rfl) (by kernel_rfl) (by kernel_rfl) rfl (fun _ _ _ h => h) (Or.inr ⟨by rfl, rfl⟩) (by assumption) ?_
        simp only [Act.put, getElem_toArray, getElem_cons_succ, getElem_cons_zero, setIfInBounds_toArray, set_cons_zero, set_cons_succ]
        refine goes_take0 (i := 21) (v := undef) rfl (by kernel_rfl) (by kernel_rfl) (by kernel_rfl) rfl (fun _ _ _ h => h) (Or.inr ⟨by rfl, rfl⟩) (by assumption) ?_
        simp only [Act.put, getElem_toArray, getElem_cons_succ, getElem_cons_zero, setIfInBounds_toArray, set_cons_zero, set_cons_succ]
        refine goes_take0 (i := 22) (v := undef) rfl (by kernel_rfl) (by kernel_rfl) (by kernel_rfl) rfl (fun _ _ _ h => h) (Or.inr ⟨by rfl, rfl⟩) (by assumption) ?_
        simp only [Act.put, getElem_toArray, getElem_cons_succ, getElem_cons_zero, setIfInBounds_toArray, set_cons_zero, set_cons_succ]
        refine goes_take0 (i := 23) (v := undef) rfl (by kernel_rfl) (by kernel_rfl) (by kernel_rfl) rfl (fun _ _ _ h => h) (Or.inr ⟨by rfl, rfl⟩) (by assumption) ?_
        simp only [Act.put, getElem_toArray, getElem_cons_succ, getElem_cons_zero, setIfInBounds_toArray, set_cons_zero, set_cons_succ]
        refine goes_take0 (i := 24) (v := undef) rfl (by kernel_rfl) (by kernel_rfl) (by kernel_rfl) rfl (fun _ _ _ h => h) (Or.inr ⟨by rfl, rfl⟩) (by assumption) ?_
        simp only [Act.put, getElem_toArray, getElem_cons_succ, getElem_cons_zero, setIfInBounds_toArray, set_cons_zero, set_cons_succ]
        refine goes_take0 (i := 25) (v := (.bool true)) rfl (by kernel_rfl) (by kernel_rfl) (by kernel_rfl) rfl (fun _ _ _ h => h) (Or.inl ⟨by rfl, ?hy9⟩) (by assumption) ?hr9
        case hy9 => (intro W9 hW9; obtain ⟨k0, k1, k2⟩ := hW9; first | (go_simp; done) | (go_simp; with_reducible rfl))
        simp only [Act.put, getElem_toArray, getElem_cons_succ, getElem_cons_zero, setIfInBounds_toArray, set_cons_zero, set_cons_succ]
        refine goes_done (by kernel_rfl) ?_ _
        go_wp2
        go_ret
        exact ⟨by rw [HR.out]; rfl, HBD.out⟩
      have d1 : decide ((a.lo : Int) > a.hi) = false := decide_eq_false (by omega)
      have d2 : decide ((a.hi : Int) < a.lo) = false := decide_eq_false (by omega)
      have d3 : decide (a.hi < a.lo) = false := decide_eq_false h1
      have HIS := Lib.hid (fun W => isState_any a.dest n W)
      have HOK := Lib.hid (show arcOk n a = (decide (0 ≤ a.dest) && decide (a.dest < (n : Int))) by unfold arcOk; rw [decide_eq_true (show a.lo ≤ a.hi by omega), Bool.true_and])
      clear h1
      cases hst : (decide (0 ≤ a.dest) && decide (a.dest < (n : Int)))
      · rw [hst] at HIS HOK
        have HR := Lib.hid (HNO.out (by unfold fitAt; rw [HOK.out]; rfl))
        clear HNO HYES HX HOK hst
        refine region_goes 126 26 rfl (fun W => W.cell? ⟨g, 0, none⟩ = some (.int .u8 a.lo) ∧ W.cell? ⟨g, 1, none⟩ = some (.int .u8 a.hi) ∧ W.cell? ⟨g, 2, none⟩ = some (.int .i64 a.dest)) mixed ⟨a0, a1, a2⟩ (fun hHeld => ?_)
        clear a0 a1 a2
        refine goes_take0 (i := 0) (v := ?hv10) rfl (by kernel_rfl) (by kernel_rfl) (by kernel_rfl) rfl (fun _ _ _ h => h) (Or.inl ⟨by rfl, ?hy10⟩) (by assumption) ?hr10
        case hy10 => (intro W9 hW9; obtain ⟨k0, k1, k2⟩ := hW9; first | (go_simp; done) | (go_simp; with_reducible rfl))
        simp only [Act.put, getElem_toArray, getElem_cons_succ, getElem_cons_zero, setIfInBounds_toArray, set_cons_zero, set_cons_succ]
        refine goes_take0 (i := 1) (v := ?hv11) rfl (by kernel_rfl) (by kernel_rfl) (by kernel_rfl) rfl (fun _ _ _ h => h) (Or.inl ⟨by rfl, ?hy11⟩) (by assumption) ?hr11
        case hy11 => (intro W9 hW9; obtain ⟨k0, k1, k2⟩ := hW9; first | (go_simp; done) | (go_simp; with_reducible rfl))
        simp only [Act.put, getElem_toArray, getElem_cons_succ, getElem_cons_zero, setIfInBounds_toArray, set_cons_zero, set_cons_succ]
        refine goes_take0 (i := 2) (v := ?hv12) rfl (by kernel_rfl) (by kernel_rfl) (by kernel_rfl) rfl (fun _ _ _ h => h) (Or.inl ⟨by rfl, ?hy12⟩) (by assumption) ?hr12
        case hy12 => (intro W9 hW9; obtain ⟨k0, k1, k2⟩ := hW9; first | (go_simp; done) | (go_simp; with_reducible rfl))
        simp only [Act.put, getElem_toArray, getElem_cons_succ, getElem_cons_zero, setIfInBounds_toArray, set_cons_zero, set_cons_succ]
        refine goes_take0 (i := 3) (v := ?hv13) rfl (by kernel_rfl) (by kernel_rfl) (by kernel_rfl) rfl (fun _ _ _ h => h) (Or.inl ⟨by rfl, ?hy13⟩) (by assumption) ?hr13
        case hy13 => (intro W9 hW9; obtain ⟨k0, k1, k2⟩ := hW9; first | (go_simp; done) | (go_simp; with_reducible rfl))
        simp only [Act.put, getElem_toArray, getElem_cons_succ, getElem_cons_zero, setIfInBounds_toArray, set_cons_zero, set_cons_succ]
        refine goes_take0 (i := 4) (v := (.bool false)) rfl (by kernel_rfl) (by kernel_rfl) (by kernel_rfl) rfl (fun _ _ _ h => h) (Or.inl ⟨by rfl, ?hy14⟩) (by assumption) ?hr14
        case hy14 => (intro W9 hW9; obtain ⟨k0, k1, k2⟩ := hW9; first | (go_simp; done) | (go_simp; with_reducible rfl))
        simp only [Act.put, getElem_toArray, getElem_cons_succ, getElem_cons_zero, setIfInBounds_toArray, set_cons_zero, set_cons_succ]
        refine goes_take0 (i := 5) (v := (.bool false)) rfl (by kernel_rfl) (by kernel_rfl) (by kernel_rfl) rfl (fun _ _ _ h => h) (Or.inl ⟨by rfl, ?hy15⟩) (by assumption) ?hr15
        case hy15 => (intro W9 hW9; obtain ⟨k0, k1, k2⟩ := hW9; first | (go_simp; done) | (go_simp; with_reducible rfl))
        simp only [Act.put, getElem_toArray, getElem_cons_succ, getElem_cons_zero, setIfInBounds_toArray, set_cons_zero, set_cons_succ]
        refine goes_take0 (i := 6) (v := ?hv16) rfl (by kernel_rfl) (by kernel_rfl) (by kernel_rfl) rfl (fun _ _ _ h => h) (Or.inl ⟨by rfl, ?hy16⟩) (by assumption) ?hr16
        case hy16 => (intro W9 hW9; obtain ⟨k0, k1, k2⟩ := hW9; first | (go_simp; done) | (go_simp; with_reducible rfl))
        simp only [Act.put, getElem_toArray, getElem_cons_succ, getElem_cons_zero, setIfInBounds_toArray, set_cons_zero, set_cons_succ]
        refine goes_take0 (i := 7) (v := ?hv17) rfl (by kernel_rfl) (by kernel_rfl) (by kernel_rfl) rfl (fun _ _ _ h => h) (Or.inl ⟨by rfl, ?hy17⟩) (by assumption) ?hr17
        case hy17 => (intro W9 hW9; obtain ⟨k0, k1, k2⟩ := hW9; first | (go_simp; done) | (go_simp; with_reducible rfl))
        simp only [Act.put, getElem_toArray, getElem_cons_succ, getElem_cons_zero, setIfInBounds_toArray, set_cons_zero, set_cons_succ]
        refine goes_take0 (i := 8) (v := ?hv18) rfl (by kernel_rfl) (by kernel_rfl) (by kernel_rfl) rfl (fun _ _ _ h => h) (Or.inl ⟨by rfl, ?hy18⟩) (by assumption) ?hr18
        case hy18 => (intro W9 hW9; obtain ⟨k0, k1, k2⟩ := hW9; first | (go_simp; done) | (go_simp; with_reducible rfl))
        simp only [Act.put, getElem_toArray, getElem_cons_succ, getElem_cons_zero, setIfInBounds_toArray, set_cons_zero, set_cons_succ]
        refine goes_one (i := 9) (by kernel_rfl) rfl (fun K9 hK9 => ?_)
        rw [if_pos (by rfl)]
        go_simp
        refine (HIS.out _).mono ?_
        rintro e w9 ⟨rfl, e9⟩
        subst e9
        obtain ⟨k0, k1, k2⟩ := hHeld
        refine hK9.out _ _ (fun _ => ⟨k0, k1, k2⟩) (fun hHeld => ?_)
        have hHeld := hHeld (by decide)
        clear hK9 K9 k0 k1 k2
        refine goes_take0 (i := 10) (v := (.bool true)) rfl (by kernel_rfl) (by kernel_rfl) (by kernel_rfl) rfl (fun _ _ _ h => h) (Or.inl ⟨by rfl, ?hy19⟩) (by assumption) ?hr19
        case hy19 => (intro W9 hW9; obtain ⟨k0, k1, k2⟩ := hW9; first | (go_simp; done) | (go_simp; with_reducible rfl))
        simp only [Act.put, getElem_toArray, getElem_cons_succ, getElem_cons_zero, setIfInBounds_toArray, set_cons_zero, set_cons_succ]
        refine goes_take0 (i := 11) (v := (.bool true)) rfl (by kernel_rfl) (by kernel_rfl) (by kernel_rfl) rfl (fun _ _ _ h => h) (Or.inl ⟨by rfl, ?hy20⟩) (by assumption) ?hr20
        case hy20 => (intro W9 hW9; obtain ⟨k0, k1, k2⟩ := hW9; first | (go_simp; done) | (go_simp; with_reducible rfl))
        simp only [Act.put, getElem_toArray, getElem_cons_succ, getElem_cons_zero, setIfInBounds_toArray, set_cons_zero, set_cons_succ]
        refine goes_take0 (i := 12) (v := (.bool true)) rfl (by kernel_rfl) (by kernel_rfl) (by kernel_rfl) rfl (fun _ _ _ h => h) (Or.inl ⟨by rfl, ?hy21⟩) (by assumption) ?hr21
        case hy21 => (intro W9 hW9; obtain ⟨k0, k1, k2⟩ := hW9; first | (go_simp; done) | (go_simp; with_reducible rfl))
        simp only [Act.put, getElem_toArray, getElem_cons_succ, getElem_cons_zero, setIfInBounds_toArray, set_cons_zero, set_cons_succ]
        refine goes_take0 (i := 13) (v := undef) rfl (by kernel_rfl) (by kernel_rfl) (by kernel_rfl) rfl (fun _ _ _ h => h) (Or.inr ⟨by rfl, rfl⟩) (by assumption) ?_
        simp only [Act.put, getElem_toArray, getElem_cons_succ, getElem_cons_zero, setIfInBounds_toArray, set_cons_zero, set_cons_succ]
        refine goes_take0 (i := 14) (v := undef) rfl (by kernel_rfl) (by kernel_rfl) (by kernel_rfl) rfl (fun _ _ _ h => h) (Or.inr ⟨by rfl, rfl⟩) (by assumption) ?_
        simp only [Act.put, getElem_toArray, getElem_cons_succ, getElem_cons_zero, setIfInBounds_toArray, set_cons_zero, set_cons_succ]
        refine goes_take0 (i := 15) (v := undef) rfl (by kernel_rfl) (by kernel_rfl) (by kernel_rfl) rfl (fun _ _ _ h => h) (Or.inr ⟨by rfl, rfl⟩) (by assumption) ?_
        simp only [Act.put, getElem_toArray, getElem_cons_succ, getElem_cons_zero, setIfInBounds_toArray, set_cons_zero, set_cons_succ]
        refine goes_take0 (i := 16) (v := undef) rfl (by kernel_rfl) (by kernel_rfl) (by kernel_rfl) rfl (fun _ _ _ h => h) (Or.inr ⟨by rfl, rfl⟩) (by assumption) ?_
        simp only [Act.put, getElem_toArray, getElem_cons_succ, getElem_cons_zero, setIfInBounds_toArray, set_cons_zero, set_cons_succ]
        refine goes_take0 (i := 17) (v := undef) rfl (by kernel_rfl) (by kernel_rfl) (by kernel_rfl) rfl (fun _ _ _ h => h) (Or.inr ⟨by rfl, rfl⟩) (by assumption) ?_
        simp only [Act.put, getElem_toArray, getElem_cons_succ, getElem_cons_zero, setIfInBounds_toArray, set_cons_zero, set_cons_succ]
        refine goes_take0 (i := 18) (v := undef) rfl (by kernel_rfl) (by kernel_rfl) (by kernel_rfl) rfl (fun _ _ _ h => h) (Or.inr ⟨by rfl, rfl⟩) (by assumption) ?_
        simp only [Act.put, getElem_toArray, getElem_cons_succ, getElem_cons_zero, setIfInBounds_toArray, set_cons_zero, set_cons_succ]
        refine goes_take0 (i := 19) (v := undef) rfl (by kernel_rfl) (by kernel_rfl) (by kernel_rfl) rfl (fun _ _ _ h => h) (Or.inr ⟨by rfl, rfl⟩) (by assumption) ?_
        simp only [Act.put, getElem_toArray, getElem_cons_succ, getElem_cons_zero, setIfInBounds_toArray, set_cons_zero, set_cons_succ]
        refine goes_take0 (i := 20) (v := undef) rfl (by kernel_rfl) (by kernel_rfl) (by kernel_rfl) rfl (fun _ _ _ h => h) (Or.inr ⟨by rfl, rfl⟩) (by assumption) ?_
        simp only [Act.put, getElem_toArray, getElem_cons_succ, getElem_cons_zero, setIfInBounds_toArray, set_cons_zero, set_cons_succ]
        refine goes_take0 (i := 21) (v := undef) rfl (by kernel_rfl) (by kernel_rfl) (by kernel_rfl) rfl (fun _ _ _ h => h) (Or.inr ⟨by rfl, rfl⟩) (by assumption) ?_
        simp only [Act.put, getElem_toArray, getElem_cons_succ, getElem_cons_zero, setIfInBounds_toArray, set_cons_zero, set_cons_succ]
        refine goes_take0 (i := 22) (v := undef) rfl (by kernel_rfl) (by kernel_rfl) (by kernel_rfl) rfl (fun _ _ _ h => h) (Or.inr ⟨by rfl, rfl⟩) (by assumption) ?_
        simp only [Act.put, getElem_toArray, getElem_cons_succ, getElem_cons_zero, setIfInBounds_toArray, set_cons_zero, set_cons_succ]
        refine goes_take0 (i := 23) (v := undef) rfl (by kernel_rfl) (by kernel_rfl) (by kernel_rfl) rfl (fun _ _ _ h => h) (Or.inr ⟨by rfl, rfl⟩) (by assumption) ?_
        simp only [Act.put, getElem_toArray, getElem_cons_succ, getElem_cons_zero, setIfInBounds_toArray, set_cons_zero, set_cons_succ]
        refine goes_take0 (i := 24) (v := undef) rfl (by kernel_rfl) (by kernel_rfl) (by kernel_rfl) rfl (fun _ _ _ h => h) (Or.inr ⟨by rfl, rfl⟩) (by assumption) ?_
        simp only [Act.put, getElem_toArray, getElem_cons_succ, getElem_cons_zero, setIfInBounds_toArray, set_cons_zero, set_cons_succ]
        refine goes_take0 (i := 25) (v := (.bool true)) rfl (by kernel_rfl) (by kernel_rfl) (by kernel_rfl) rfl (fun _ _ _ h => h) (Or.inl ⟨by rfl, ?hy22⟩) (by assumption) ?hr22
        case hy22 => (intro W9 hW9; obtain ⟨k0, k1, k2⟩ := hW9; first | (go_simp; done) | (go_simp; with_reducible rfl))
        simp only [Act.put, getElem_toArray, getElem_cons_succ, getElem_cons_zero, setIfInBounds_toArray, set_cons_zero, set_cons_succ]
        refine goes_done (by kernel_rfl) ?_ _
        go_wp2
        go_ret
        exact ⟨by rw [HR.out]; rfl, HBD.out⟩
      rw [hst] at HIS HOK
      clear hst
      by_cases hk0 : k = 0
      · have HY := Lib.hid (HYES.out (by unfold fitAt; rw [HOK.out, hk0]; rfl))
        subst hk0
        have z1 : decide (((0 : Nat) : Int) > 0) = false := by decide
        clear HNO HYES HX HOK
        refine region_goes 126 26 rfl (fun W => W.cell? ⟨g, 0, none⟩ = some (.int .u8 a.lo) ∧ W.cell? ⟨g, 1, none⟩ = some (.int .u8 a.hi) ∧ W.cell? ⟨g, 2, none⟩ = some (.int .i64 a.dest)) mixed ⟨a0, a1, a2⟩ (fun hHeld => ?_)
        clear a0 a1 a2
        refine goes_take0 (i := 0) (v := ?hv23) rfl (by kernel_rfl) (by kernel_rfl) (by kernel_rfl) rfl (fun _ _ _ h => h) (Or.inl ⟨by rfl, ?hy23⟩) (by assumption) ?hr23
        case hy23 => (intro W9 hW9; obtain ⟨k0, k1, k2⟩ := hW9; first | (go_simp; done) | (go_simp; with_reducible rfl))
        simp only [Act.put, getElem_toArray, getElem_cons_succ, getElem_cons_zero, setIfInBounds_toArray, set_cons_zero, set_cons_succ]
        refine goes_take0 (i := 1) (v := ?hv24) rfl (by kernel_rfl) (by kernel_rfl) (by kernel_rfl) rfl (fun _ _ _ h => h) (Or.inl ⟨by rfl, ?hy24⟩) (by assumption) ?hr24
        case hy24 => (intro W9 hW9; obtain ⟨k0, k1, k2⟩ := hW9; first | (go_simp; done) | (go_simp; with_reducible rfl))
        simp only [Act.put, getElem_toArray, getElem_cons_succ, getElem_cons_zero, setIfInBounds_toArray, set_cons_zero, set_cons_succ]
        refine goes_take0 (i := 2) (v := ?hv25) rfl (by kernel_rfl) (by kernel_rfl) (by kernel_rfl) rfl (fun _ _ _ h => h) (Or.inl ⟨by rfl, ?hy25⟩) (by assumption) ?hr25
        case hy25 => (intro W9 hW9; obtain ⟨k0, k1, k2⟩ := hW9; first | (go_simp; done) | (go_simp; with_reducible rfl))
        simp only [Act.put, getElem_toArray, getElem_cons_succ, getElem_cons_zero, setIfInBounds_toArray, set_cons_zero, set_cons_succ]
        refine goes_take0 (i := 3) (v := ?hv26) rfl (by kernel_rfl) (by kernel_rfl) (by kernel_rfl) rfl (fun _ _ _ h => h) (Or.inl ⟨by rfl, ?hy26⟩) (by assumption) ?hr26
        case hy26 => (intro W9 hW9; obtain ⟨k0, k1, k2⟩ := hW9; first | (go_simp; done) | (go_simp; with_reducible rfl))
        simp only [Act.put, getElem_toArray, getElem_cons_succ, getElem_cons_zero, setIfInBounds_toArray, set_cons_zero, set_cons_succ]
        refine goes_take0 (i := 4) (v := (.bool false)) rfl (by kernel_rfl) (by kernel_rfl) (by kernel_rfl) rfl (fun _ _ _ h => h) (Or.inl ⟨by rfl, ?hy27⟩) (by assumption) ?hr27
        case hy27 => (intro W9 hW9; obtain ⟨k0, k1, k2⟩ := hW9; first | (go_simp; done) | (go_simp; with_reducible rfl))
        simp only [Act.put, getElem_toArray, getElem_cons_succ, getElem_cons_zero, setIfInBounds_toArray, set_cons_zero, set_cons_succ]
        refine goes_take0 (i := 5) (v := (.bool false)) rfl (by kernel_rfl) (by kernel_rfl) (by kernel_rfl) rfl (fun _ _ _ h => h) (Or.inl ⟨by rfl, ?hy28⟩) (by assumption) ?hr28
        case hy28 => (intro W9 hW9; obtain ⟨k0, k1, k2⟩ := hW9; first | (go_simp; done) | (go_simp; with_reducible rfl))
        simp only [Act.put, getElem_toArray, getElem_cons_succ, getElem_cons_zero, setIfInBounds_toArray, set_cons_zero, set_cons_succ]
        refine goes_take0 (i := 6) (v := ?hv29) rfl (by kernel_rfl) (by kernel_rfl) (by kernel_rfl) rfl (fun _ _ _ h => h) (Or.inl ⟨by rfl, ?hy29⟩) (by assumption) ?hr29
        case hy29 => (intro W9 hW9; obtain ⟨k0, k1, k2⟩ := hW9; first | (go_simp; done) | (go_simp; with_reducible rfl))
        simp only [Act.put, getElem_toArray, getElem_cons_succ, getElem_cons_zero, setIfInBounds_toArray, set_cons_zero, set_cons_succ]
        refine goes_take0 (i := 7) (v := ?hv30) rfl (by kernel_rfl) (by kernel_rfl) (by kernel_rfl) rfl (fun _ _ _ h => h) (Or.inl ⟨by rfl, ?hy30⟩) (by assumption) ?hr30
        case hy30 => (intro W9 hW9; obtain ⟨k0, k1, k2⟩ := hW9; first | (go_simp; done) | (go_simp; with_reducible rfl))
        simp only [Act.put, getElem_toArray, getElem_cons_succ, getElem_cons_zero, setIfInBounds_toArray, set_cons_zero, set_cons_succ]
        refine goes_take0 (i := 8) (v := ?hv31) rfl (by kernel_rfl) (by kernel_rfl) (by kernel_rfl) rfl (fun _ _ _ h => h) (Or.inl ⟨by rfl, ?hy31⟩) (by assumption) ?hr31
        case hy31 => (intro W9 hW9; obtain ⟨k0, k1, k2⟩ := hW9; first | (go_simp; done) | (go_simp; with_reducible rfl))
        simp only [Act.put, getElem_toArray, getElem_cons_succ, getElem_cons_zero, setIfInBounds_toArray, set_cons_zero, set_cons_succ]
        refine goes_one (i := 9) (by kernel_rfl) rfl (fun K9 hK9 => ?_)
        rw [if_pos (by rfl)]
        go_simp
        refine (HIS.out _).mono ?_
        rintro e w9 ⟨rfl, e9⟩
        subst e9
        obtain ⟨k0, k1, k2⟩ := hHeld
        refine hK9.out _ _ (fun _ => ⟨k0, k1, k2⟩) (fun hHeld => ?_)
        have hHeld := hHeld (by decide)
        clear hK9 K9 k0 k1 k2
        refine goes_take0 (i := 10) (v := (.bool false)) rfl (by kernel_rfl) (by kernel_rfl) (by kernel_rfl) rfl (fun _ _ _ h => h) (Or.inl ⟨by rfl, ?hy32⟩) (by assumption) ?hr32
        case hy32 => (intro W9 hW9; obtain ⟨k0, k1, k2⟩ := hW9; first | (go_simp; done) | (go_simp; with_reducible rfl))
        simp only [Act.put, getElem_toArray, getElem_cons_succ, getElem_cons_zero, setIfInBounds_toArray, set_cons_zero, set_cons_succ]
        refine goes_take0 (i := 11) (v := (.bool false)) rfl (by kernel_rfl) (by kernel_rfl) (by kernel_rfl) rfl (fun _ _ _ h => h) (Or.inl ⟨by rfl, ?hy33⟩) (by assumption) ?hr33
        case hy33 => (intro W9 hW9; obtain ⟨k0, k1, k2⟩ := hW9; first | (go_simp; done) | (go_simp; with_reducible rfl))
        simp only [Act.put, getElem_toArray, getElem_cons_succ, getElem_cons_zero, setIfInBounds_toArray, set_cons_zero, set_cons_succ]
        refine goes_take0 (i := 12) (v := (.bool false)) rfl (by kernel_rfl) (by kernel_rfl) (by kernel_rfl) rfl (fun _ _ _ h => h) (Or.inl ⟨by rfl, ?hy34⟩) (by assumption) ?hr34
        case hy34 => (intro W9 hW9; obtain ⟨k0, k1, k2⟩ := hW9; first | (go_simp; done) | (go_simp; with_reducible rfl))
        simp only [Act.put, getElem_toArray, getElem_cons_succ, getElem_cons_zero, setIfInBounds_toArray, set_cons_zero, set_cons_succ]
        refine goes_take0 (i := 13) (v := ?hv35) rfl (by kernel_rfl) (by kernel_rfl) (by kernel_rfl) rfl (fun _ _ _ h => h) (Or.inl ⟨by rfl, ?hy35⟩) (by assumption) ?hr35
        case hy35 => (intro W9 hW9; obtain ⟨k0, k1, k2⟩ := hW9; first | (go_simp; done) | (go_simp; with_reducible rfl))
        simp only [Act.put, getElem_toArray, getElem_cons_succ, getElem_cons_zero, setIfInBounds_toArray, set_cons_zero, set_cons_succ]
        refine goes_take0 (i := 14) (v := (.bool false)) rfl (by kernel_rfl) (by kernel_rfl) (by kernel_rfl) rfl (fun _ _ _ h => h) (Or.inl ⟨by rfl, ?hy36⟩) (by assumption) ?hr36
        case hy36 => (intro W9 hW9; obtain ⟨k0, k1, k2⟩ := hW9; first | (go_simp; done) | (go_simp; with_reducible rfl))
        simp only [Act.put, getElem_toArray, getElem_cons_succ, getElem_cons_zero, setIfInBounds_toArray, set_cons_zero, set_cons_succ]
        refine goes_take0 (i := 15) (v := (.bool false)) rfl (by kernel_rfl) (by kernel_rfl) (by kernel_rfl) rfl (fun _ _ _ h => h) (Or.inl ⟨by rfl, ?hy37⟩) (by assumption) ?hr37
        case hy37 => (intro W9 hW9; obtain ⟨k0, k1, k2⟩ := hW9; first | (go_simp; done) | (go_simp; with_reducible rfl))
        simp only [Act.put, getElem_toArray, getElem_cons_succ, getElem_cons_zero, setIfInBounds_toArray, set_cons_zero, set_cons_succ]
        refine goes_take0 (i := 16) (v := undef) rfl (by kernel_rfl) (by kernel_rfl) (by kernel_rfl) rfl (fun _ _ _ h => h) (Or.inr ⟨by rfl, rfl⟩) (by assumption) ?_
        simp only [Act.put, getElem_toArray, getElem_cons_succ, getElem_cons_zero, setIfInBounds_toArray, set_cons_zero, set_cons_succ]
        refine goes_take0 (i := 17) (v := undef) rfl (by kernel_rfl) (by kernel_rfl) (by kernel_rfl) rfl (fun _ _ _ h => h) (Or.inr ⟨by rfl, rfl⟩) (by assumption) ?_
        simp only [Act.put, getElem_toArray, getElem_cons_succ, getElem_cons_zero, setIfInBounds_toArray, set_cons_zero, set_cons_succ]
        refine goes_take0 (i := 18) (v := undef) rfl (by kernel_rfl) (by kernel_rfl) (by kernel_rfl) rfl (fun _ _ _ h => h) (Or.inr ⟨by rfl, rfl⟩) (by assumption) ?_
        simp only [Act.put, getElem_toArray, getElem_cons_succ, getElem_cons_zero, setIfInBounds_toArray, set_cons_zero, set_cons_succ]
        refine goes_take0 (i := 19) (v := undef) rfl (by kernel_rfl) (by kernel_rfl) (by kernel_rfl) rfl (fun _ _ _ h => h) (Or.inr ⟨by rfl, rfl⟩) (by assumption) ?_
        simp only [Act.put, getElem_toArray, getElem_cons_succ, getElem_cons_zero, setIfInBounds_toArray, set_cons_zero, set_cons_succ]
        refine goes_take0 (i := 20) (v := undef) rfl (by kernel_rfl) (by kernel_rfl) (by kernel_rfl) rfl (fun _ _ _ h => h) (Or.inr ⟨by rfl, rfl⟩) (by assumption) ?_
        simp only [Act.put, getElem_toArray, getElem_cons_succ, getElem_cons_zero, setIfInBounds_toArray, set_cons_zero, set_cons_succ]
        refine goes_take0 (i := 21) (v := undef) rfl (by kernel_rfl) (by kernel_rfl) (by kernel_rfl) rfl (fun _ _ _ h => h) (Or.inr ⟨by rfl, rfl⟩) (by assumption) ?_
        simp only [Act.put, getElem_toArray, getElem_cons_succ, getElem_cons_zero, setIfInBounds_toArray, set_cons_zero, set_cons_succ]
        refine goes_take0 (i := 22) (v := undef) rfl (by kernel_rfl) (by kernel_rfl) (by kernel_rfl) rfl (fun _ _ _ h => h) (Or.inr ⟨by rfl, rfl⟩) (by assumption) ?_
        simp only [Act.put, getElem_toArray, getElem_cons_succ, getElem_cons_zero, setIfInBounds_toArray, set_cons_zero, set_cons_succ]
        refine goes_take0 (i := 23) (v := undef) rfl (by kernel_rfl) (by kernel_rfl) (by kernel_rfl) rfl (fun _ _ _ h => h) (Or.inr ⟨by rfl, rfl⟩) (by assumption) ?_
        simp only [Act.put, getElem_toArray, getElem_cons_succ, getElem_cons_zero, setIfInBounds_toArray, set_cons_zero, set_cons_succ]
        refine goes_take0 (i := 24) (v := (.bool false)) rfl (by kernel_rfl) (by kernel_rfl) (by kernel_rfl) rfl (fun _ _ _ h => h) (Or.inl ⟨by rfl, ?hy38⟩) (by assumption) ?hr38
        case hy38 => (intro W9 hW9; obtain ⟨k0, k1, k2⟩ := hW9; first | (go_simp; done) | (go_simp; with_reducible rfl))
        simp only [Act.put, getElem_toArray, getElem_cons_succ, getElem_cons_zero, setIfInBounds_toArray, set_cons_zero, set_cons_succ]
        refine goes_take0 (i := 25) (v := (.bool false)) rfl (by kernel_rfl) (by kernel_rfl) (by kernel_rfl) rfl (fun _ _ _ h => h) (Or.inl ⟨by rfl, ?hy39⟩) (by assumption) ?hr39
        case hy39 => (intro W9 hW9; obtain ⟨k0, k1, k2⟩ := hW9; first | (go_simp; done) | (go_simp; with_reducible rfl))
        simp only [Act.put, getElem_toArray, getElem_cons_succ, getElem_cons_zero, setIfInBounds_toArray, set_cons_zero, set_cons_succ]
        refine goes_done (by kernel_rfl) ?_ _
        go_wp2
        go_roundw
        case rel => exact ⟨1, rfl, hlt, HY, HBD⟩
        case measure => simp [intOf]; omega
      obtain ⟨j, hj⟩ : ∃ j, j + 1 = k := ⟨k - 1, by omega⟩
      obtain ⟨x, hxm, hpv, hxc⟩ := HX.out j hj
      obtain ⟨x0, x1, x2⟩ := hxc _ HBD.out
      have hjk : j < k := by omega
      have hjl : j < l.length := by omega
      have z1 : decide ((k : Int) > 0) = true := decide_eq_true (by omega)
      have z2 : decide ((0 : Int) < k) = true := decide_eq_true (by omega)
      have z3 : 0 < k := by omega
      have hwr : IntKind.i64.wrap ((k : Int) - 1) = (j : Int) := by rw [IntKind.wrap_i64]; omega
      obtain ⟨hy1, hy2, _, _⟩ := hxm
      have HFO := Lib.hid (fun W => follows_any x a ⟨hy1, hy2⟩ ⟨hm1, hm2⟩ W)
      clear hxc hj HX hk0
      cases hfo : behindB x a
      · rw [hfo] at HFO hpv
        have HR := Lib.hid (HNO.out (by unfold fitAt; rw [HOK.out, hpv]; rfl))
        clear HNO HYES HOK hfo hpv
        refine region_goes 126 26 rfl (fun W => W.cell? ⟨g, 0, none⟩ = some (.int .u8 a.lo) ∧ W.cell? ⟨g, 1, none⟩ = some (.int .u8 a.hi) ∧ W.cell? ⟨g, 2, none⟩ = some (.int .i64 a.dest) ∧ W.cell? ⟨b, o + j * 3, none⟩ = some (.int .u8 x.lo) ∧ W.cell? ⟨b, o + j * 3 + 1, none⟩ = some (.int .u8 x.hi) ∧ W.cell? ⟨b, o + j * 3 + 2, none⟩ = some (.int .i64 x.dest)) mixed ⟨a0, a1, a2, x0, x1, x2⟩ (fun hHeld => ?_)
        clear a0 a1 a2 x0 x1 x2
        refine goes_take0 (i := 0) (v := ?hv40) rfl (by kernel_rfl) (by kernel_rfl) (by kernel_rfl) rfl (fun _ _ _ h => h) (Or.inl ⟨by rfl, ?hy40⟩) (by assumption) ?hr40
        case hy40 => (intro W9 hW9; obtain ⟨k0, k1, k2, k3, k4, k5⟩ := hW9; first | (go_simp; done) | (go_simp; with_reducible rfl))
        simp only [Act.put, getElem_toArray, getElem_cons_succ, getElem_cons_zero, setIfInBounds_toArray, set_cons_zero, set_cons_succ]
        refine goes_take0 (i := 1) (v := ?hv41) rfl (by kernel_rfl) (by kernel_rfl) (by kernel_rfl) rfl (fun _ _ _ h => h) (Or.inl ⟨by rfl, ?hy41⟩) (by assumption) ?hr41
        case hy41 => (intro W9 hW9; obtain ⟨k0, k1, k2, k3, k4, k5⟩ := hW9; first | (go_simp; done) | (go_simp; with_reducible rfl))
        simp only [Act.put, getElem_toArray, getElem_cons_succ, getElem_cons_zero, setIfInBounds_toArray, set_cons_zero, set_cons_succ]
        refine goes_take0 (i := 2) (v := ?hv42) rfl (by kernel_rfl) (by kernel_rfl) (by kernel_rfl) rfl (fun _ _ _ h => h) (Or.inl ⟨by rfl, ?hy42⟩) (by assumption) ?hr42
        case hy42 => (intro W9 hW9; obtain ⟨k0, k1, k2, k3, k4, k5⟩ := hW9; first | (go_simp; done) | (go_simp; with_reducible rfl))
        simp only [Act.put, getElem_toArray, getElem_cons_succ, getElem_cons_zero, setIfInBounds_toArray, set_cons_zero, set_cons_succ]
        refine goes_take0 (i := 3) (v := ?hv43) rfl (by kernel_rfl) (by kernel_rfl) (by kernel_rfl) rfl (fun _ _ _ h => h) (Or.inl ⟨by rfl, ?hy43⟩) (by assumption) ?hr43
        case hy43 => (intro W9 hW9; obtain ⟨k0, k1, k2, k3, k4, k5⟩ := hW9; first | (go_simp; done) | (go_simp; with_reducible rfl))
        simp only [Act.put, getElem_toArray, getElem_cons_succ, getElem_cons_zero, setIfInBounds_toArray, set_cons_zero, set_cons_succ]
        refine goes_take0 (i := 4) (v := (.bool false)) rfl (by kernel_rfl) (by kernel_rfl) (by kernel_rfl) rfl (fun _ _ _ h => h) (Or.inl ⟨by rfl, ?hy44⟩) (by assumption) ?hr44
        case hy44 => (intro W9 hW9; obtain ⟨k0, k1, k2, k3, k4, k5⟩ := hW9; first | (go_simp; done) | (go_simp; with_reducible rfl))
        simp only [Act.put, getElem_toArray, getElem_cons_succ, getElem_cons_zero, setIfInBounds_toArray, set_cons_zero, set_cons_succ]
        refine goes_take0 (i := 5) (v := (.bool false)) rfl (by kernel_rfl) (by kernel_rfl) (by kernel_rfl) rfl (fun _ _ _ h => h) (Or.inl ⟨by rfl, ?hy45⟩) (by assumption) ?hr45
        case hy45 => (intro W9 hW9; obtain ⟨k0, k1, k2, k3, k4, k5⟩ := hW9; first | (go_simp; done) | (go_simp; with_reducible rfl))
        simp only [Act.put, getElem_toArray, getElem_cons_succ, getElem_cons_zero, setIfInBounds_toArray, set_cons_zero, set_cons_succ]
        refine goes_take0 (i := 6) (v := ?hv46) rfl (by kernel_rfl) (by kernel_rfl) (by kernel_rfl) rfl (fun _ _ _ h => h) (Or.inl ⟨by rfl, ?hy46⟩) (by assumption) ?hr46
        case hy46 => (intro W9 hW9; obtain ⟨k0, k1, k2, k3, k4, k5⟩ := hW9; first | (go_simp; done) | (go_simp; with_reducible rfl))
        simp only [Act.put, getElem_toArray, getElem_cons_succ, getElem_cons_zero, setIfInBounds_toArray, set_cons_zero, set_cons_succ]
        refine goes_take0 (i := 7) (v := ?hv47) rfl (by kernel_rfl) (by kernel_rfl) (by kernel_rfl) rfl (fun _ _ _ h => h) (Or.inl ⟨by rfl, ?hy47⟩) (by assumption) ?hr47
        case hy47 => (intro W9 hW9; obtain ⟨k0, k1, k2, k3, k4, k5⟩ := hW9; first | (go_simp; done) | (go_simp; with_reducible rfl))
        simp only [Act.put, getElem_toArray, getElem_cons_succ, getElem_cons_zero, setIfInBounds_toArray, set_cons_zero, set_cons_succ]
        refine goes_take0 (i := 8) (v := ?hv48) rfl (by kernel_rfl) (by kernel_rfl) (by kernel_rfl) rfl (fun _ _ _ h => h) (Or.inl ⟨by rfl, ?hy48⟩) (by assumption) ?hr48
        case hy48 => (intro W9 hW9; obtain ⟨k0, k1, k2, k3, k4, k5⟩ := hW9; first | (go_simp; done) | (go_simp; with_reducible rfl))
        simp only [Act.put, getElem_toArray, getElem_cons_succ, getElem_cons_zero, setIfInBounds_toArray, set_cons_zero, set_cons_succ]
        refine goes_one (i := 9) (by kernel_rfl) rfl (fun K9 hK9 => ?_)
        rw [if_pos (by rfl)]
        go_simp
        refine (HIS.out _).mono ?_
        rintro e w9 ⟨rfl, e9⟩
        subst e9
        obtain ⟨k0, k1, k2, k3, k4, k5⟩ := hHeld
        refine hK9.out _ _ (fun _ => ⟨k0, k1, k2, k3, k4, k5⟩) (fun hHeld => ?_)
        have hHeld := hHeld (by decide)
        clear hK9 K9 k0 k1 k2 k3 k4 k5
        refine goes_take0 (i := 10) (v := (.bool false)) rfl (by kernel_rfl) (by kernel_rfl) (by kernel_rfl) rfl (fun _ _ _ h => h) (Or.inl ⟨by rfl, ?hy49⟩) (by assumption) ?hr49
        case hy49 => (intro W9 hW9; obtain ⟨k0, k1, k2, k3, k4, k5⟩ := hW9; first | (go_simp; done) | (go_simp; with_reducible rfl))
        simp only [Act.put, getElem_toArray, getElem_cons_succ, getElem_cons_zero, setIfInBounds_toArray, set_cons_zero, set_cons_succ]
        refine goes_take0 (i := 11) (v := (.bool false)) rfl (by kernel_rfl) (by kernel_rfl) (by kernel_rfl) rfl (fun _ _ _ h => h) (Or.inl ⟨by rfl, ?hy50⟩) (by assumption) ?hr50
        case hy50 => (intro W9 hW9; obtain ⟨k0, k1, k2, k3, k4, k5⟩ := hW9; first | (go_simp; done) | (go_simp; with_reducible rfl))
        simp only [Act.put, getElem_toArray, getElem_cons_succ, getElem_cons_zero, setIfInBounds_toArray, set_cons_zero, set_cons_succ]
        refine goes_take0 (i := 12) (v := (.bool false)) rfl (by kernel_rfl) (by kernel_rfl) (by kernel_rfl) rfl (fun _ _ _ h => h) (Or.inl ⟨by rfl, ?hy51⟩) (by assumption) ?hr51
        case hy51 => (intro W9 hW9; obtain ⟨k0, k1, k2, k3, k4, k5⟩ := hW9; first | (go_simp; done) | (go_simp; with_reducible rfl))
        simp only [Act.put, getElem_toArray, getElem_cons_succ, getElem_cons_zero, setIfInBounds_toArray, set_cons_zero, set_cons_succ]
        refine goes_take0 (i := 13) (v := ?hv52) rfl (by kernel_rfl) (by kernel_rfl) (by kernel_rfl) rfl (fun _ _ _ h => h) (Or.inl ⟨by rfl, ?hy52⟩) (by assumption) ?hr52
        case hy52 => (intro W9 hW9; obtain ⟨k0, k1, k2, k3, k4, k5⟩ := hW9; first | (go_simp; done) | (go_simp; with_reducible rfl))
        simp only [Act.put, getElem_toArray, getElem_cons_succ, getElem_cons_zero, setIfInBounds_toArray, set_cons_zero, set_cons_succ]
        refine goes_take0 (i := 14) (v := (.bool true)) rfl (by kernel_rfl) (by kernel_rfl) (by kernel_rfl) rfl (fun _ _ _ h => h) (Or.inl ⟨by rfl, ?hy53⟩) (by assumption) ?hr53
        case hy53 => (intro W9 hW9; obtain ⟨k0, k1, k2, k3, k4, k5⟩ := hW9; first | (go_simp; done) | (go_simp; with_reducible rfl))
        simp only [Act.put, getElem_toArray, getElem_cons_succ, getElem_cons_zero, setIfInBounds_toArray, set_cons_zero, set_cons_succ]
        refine goes_take0 (i := 15) (v := (.bool true)) rfl (by kernel_rfl) (by kernel_rfl) (by kernel_rfl) rfl (fun _ _ _ h => h) (Or.inl ⟨by rfl, ?hy54⟩) (by assumption) ?hr54
        case hy54 => (intro W9 hW9; obtain ⟨k0, k1, k2, k3, k4, k5⟩ := hW9; first | (go_simp; done) | (go_simp; with_reducible rfl))
        simp only [Act.put, getElem_toArray, getElem_cons_succ, getElem_cons_zero, setIfInBounds_toArray, set_cons_zero, set_cons_succ]
        refine goes_take0 (i := 16) (v := ?hv55) rfl (by kernel_rfl) (by kernel_rfl) (by kernel_rfl) rfl (fun _ _ _ h => h) (Or.inl ⟨by rfl, ?hy55⟩) (by assumption) ?hr55
        case hy55 => (intro W9 hW9; obtain ⟨k0, k1, k2, k3, k4, k5⟩ := hW9; first | (go_simp; done) | (go_simp; with_reducible rfl))
        simp only [Act.put, getElem_toArray, getElem_cons_succ, getElem_cons_zero, setIfInBounds_toArray, set_cons_zero, set_cons_succ]
        refine goes_take0 (i := 17) (v := ?hv56) rfl (by kernel_rfl) (by kernel_rfl) (by kernel_rfl) rfl (fun _ _ _ h => h) (Or.inl ⟨by rfl, ?hy56⟩) (by assumption) ?hr56
        case hy56 => (intro W9 hW9; obtain ⟨k0, k1, k2, k3, k4, k5⟩ := hW9; first | (go_simp; done) | (go_simp; with_reducible rfl))
        simp only [Act.put, getElem_toArray, getElem_cons_succ, getElem_cons_zero, setIfInBounds_toArray, set_cons_zero, set_cons_succ]
        refine goes_take0 (i := 18) (v := (.int .i64 (j : Int))) rfl (by kernel_rfl) (by kernel_rfl) (by kernel_rfl) rfl (fun _ _ _ h => h) (Or.inl ⟨by rfl, ?hy57⟩) (by assumption) ?hr57
        case hy57 => (intro W9 hW9; obtain ⟨k0, k1, k2, k3, k4, k5⟩ := hW9; first | (go_simp; done) | (go_simp; with_reducible rfl))
        simp only [Act.put, getElem_toArray, getElem_cons_succ, getElem_cons_zero, setIfInBounds_toArray, set_cons_zero, set_cons_succ]
        refine goes_take0 (i := 19) (v := ?hv58) rfl (by kernel_rfl) (by kernel_rfl) (by kernel_rfl) rfl (fun _ _ _ h => h) (Or.inl ⟨by rfl, ?hy58⟩) (by assumption) ?hr58
        case hy58 => (intro W9 hW9; obtain ⟨k0, k1, k2, k3, k4, k5⟩ := hW9; first | (go_simp; done) | (go_simp; with_reducible rfl))
        simp only [Act.put, getElem_toArray, getElem_cons_succ, getElem_cons_zero, setIfInBounds_toArray, set_cons_zero, set_cons_succ]
        refine goes_take0 (i := 20) (v := ?hv59) rfl (by kernel_rfl) (by kernel_rfl) (by kernel_rfl) rfl (fun _ _ _ h => h) (Or.inl ⟨by rfl, ?hy59⟩) (by assumption) ?hr59
        case hy59 => (intro W9 hW9; obtain ⟨k0, k1, k2, k3, k4, k5⟩ := hW9; first | (go_simp; done) | (go_simp; with_reducible rfl))
        simp only [Act.put, getElem_toArray, getElem_cons_succ, getElem_cons_zero, setIfInBounds_toArray, set_cons_zero, set_cons_succ]
        refine goes_take0 (i := 21) (v := ?hv60) rfl (by kernel_rfl) (by kernel_rfl) (by kernel_rfl) rfl (fun _ _ _ h => h) (Or.inl ⟨by rfl, ?hy60⟩) (by assumption) ?hr60
        case hy60 => (intro W9 hW9; obtain ⟨k0, k1, k2, k3, k4, k5⟩ := hW9; first | (go_simp; done) | (go_simp; with_reducible rfl))
        simp only [Act.put, getElem_toArray, getElem_cons_succ, getElem_cons_zero, setIfInBounds_toArray, set_cons_zero, set_cons_succ]
        refine goes_one (i := 22) (by kernel_rfl) rfl (fun K9 hK9 => ?_)
        rw [if_pos (by rfl)]
        go_simp
        refine (HFO.out _).mono ?_
        rintro e w22 ⟨rfl, hb22⟩
        obtain ⟨k0, k1, k2, k3, k4, k5⟩ := hHeld
        refine hK9.out _ _ (fun _ => ⟨cell_below hb22 k0, cell_below hb22 k1, cell_below hb22 k2, cell_below hb22 k3, cell_below hb22 k4, cell_below hb22 k5⟩) (fun hHeld => ?_)
        have hHeld := hHeld (by decide)
        clear hK9 K9 k0 k1 k2 k3 k4 k5
        refine goes_take0 (i := 23) (v := (.bool true)) rfl (by kernel_rfl) (by kernel_rfl) (by kernel_rfl) rfl (fun _ _ _ h => h) (Or.inl ⟨by rfl, ?hy61⟩) (by assumption) ?hr61
        case hy61 => (intro W9 hW9; obtain ⟨k0, k1, k2, k3, k4, k5⟩ := hW9; first | (go_simp; done) | (go_simp; with_reducible rfl))
        simp only [Act.put, getElem_toArray, getElem_cons_succ, getElem_cons_zero, setIfInBounds_toArray, set_cons_zero, set_cons_succ]
        refine goes_take0 (i := 24) (v := (.bool true)) rfl (by kernel_rfl) (by kernel_rfl) (by kernel_rfl) rfl (fun _ _ _ h => h) (Or.inl ⟨by rfl, ?hy62⟩) (by assumption) ?hr62
        case hy62 => (intro W9 hW9; obtain ⟨k0, k1, k2, k3, k4, k5⟩ := hW9; first | (go_simp; done) | (go_simp; with_reducible rfl))
        simp only [Act.put, getElem_toArray, getElem_cons_succ, getElem_cons_zero, setIfInBounds_toArray, set_cons_zero, set_cons_succ]
        refine goes_take0 (i := 25) (v := (.bool true)) rfl (by kernel_rfl) (by kernel_rfl) (by kernel_rfl) rfl (fun _ _ _ h => h) (Or.inl ⟨by rfl, ?hy63⟩) (by assumption) ?hr63
        case hy63 => (intro W9 hW9; obtain ⟨k0, k1, k2, k3, k4, k5⟩ := hW9; first | (go_simp; done) | (go_simp; with_reducible rfl))
        simp only [Act.put, getElem_toArray, getElem_cons_succ, getElem_cons_zero, setIfInBounds_toArray, set_cons_zero, set_cons_succ]
        refine goes_done (by kernel_rfl) ?_ _
        go_wp2
        go_ret
        exact ⟨by rw [HR.out]; rfl, HBD.out.trans (hb22.mono HBD.out.size)⟩
      · rw [hfo] at HFO hpv
        have HY := Lib.hid (HYES.out (by unfold fitAt; rw [HOK.out, hpv]; rfl))
        clear HNO HYES HOK hfo hpv
        refine region_goes 126 26 rfl (fun W => W.cell? ⟨g, 0, none⟩ = some (.int .u8 a.lo) ∧ W.cell? ⟨g, 1, none⟩ = some (.int .u8 a.hi) ∧ W.cell? ⟨g, 2, none⟩ = some (.int .i64 a.dest) ∧ W.cell? ⟨b, o + j * 3, none⟩ = some (.int .u8 x.lo) ∧ W.cell? ⟨b, o + j * 3 + 1, none⟩ = some (.int .u8 x.hi) ∧ W.cell? ⟨b, o + j * 3 + 2, none⟩ = some (.int .i64 x.dest)) mixed ⟨a0, a1, a2, x0, x1, x2⟩ (fun hHeld => ?_)
        clear a0 a1 a2 x0 x1 x2
        refine goes_take0 (i := 0) (v := ?hv64) rfl (by kernel_rfl) (by kernel_rfl) (by kernel_rfl) rfl (fun _ _ _ h => h) (Or.inl ⟨by rfl, ?hy64⟩) (by assumption) ?hr64
        case hy64 => (intro W9 hW9; obtain ⟨k0, k1, k2, k3, k4, k5⟩ := hW9; first | (go_simp; done) | (go_simp; with_reducible rfl))
        simp only [Act.put, getElem_toArray, getElem_cons_succ, getElem_cons_zero, setIfInBounds_toArray, set_cons_zero, set_cons_succ]
        refine goes_take0 (i := 1) (v := ?hv65) rfl (by kernel_rfl) (by kernel_rfl) (by kernel_rfl) rfl (fun _ _ _ h => h) (Or.inl ⟨by rfl, ?hy65⟩) (by assumption) ?hr65
        case hy65 => (intro W9 hW9; obtain ⟨k0, k1, k2, k3, k4, k5⟩ := hW9; first | (go_simp; done) | (go_simp; with_reducible rfl))
        simp only [Act.put, getElem_toArray, getElem_cons_succ, getElem_cons_zero, setIfInBounds_toArray, set_cons_zero, set_cons_succ]
        refine goes_take0 (i := 2) (v := ?hv66) rfl (by kernel_rfl) (by kernel_rfl) (by kernel_rfl) rfl (fun _ _ _ h => h) (Or.inl ⟨by rfl, ?hy66⟩) (by assumption) ?hr66
        case hy66 => (intro W9 hW9; obtain ⟨k0, k1, k2, k3, k4, k5⟩ := hW9; first | (go_simp; done) | (go_simp; with_reducible rfl))
        simp only [Act.put, getElem_toArray, getElem_cons_succ, getElem_cons_zero, setIfInBounds_toArray, set_cons_zero, set_cons_succ]
        refine goes_take0 (i := 3) (v := ?hv67) rfl (by kernel_rfl) (by kernel_rfl) (by kernel_rfl) rfl (fun _ _ _ h => h) (Or.inl ⟨by rfl, ?hy67⟩) (by assumption) ?hr67
        case hy67 => (intro W9 hW9; obtain ⟨k0, k1, k2, k3, k4, k5⟩ := hW9; first | (go_simp; done) | (go_simp; with_reducible rfl))
        simp only [Act.put, getElem_toArray, getElem_cons_succ, getElem_cons_zero, setIfInBounds_toArray, set_cons_zero, set_cons_succ]
        refine goes_take0 (i := 4) (v := (.bool false)) rfl (by kernel_rfl) (by kernel_rfl) (by kernel_rfl) rfl (fun _ _ _ h => h) (Or.inl ⟨by rfl, ?hy68⟩) (by assumption) ?hr68
        case hy68 => (intro W9 hW9; obtain ⟨k0, k1, k2, k3, k4, k5⟩ := hW9; first | (go_simp; done) | (go_simp; with_reducible rfl))
        simp only [Act.put, getElem_toArray, getElem_cons_succ, getElem_cons_zero, setIfInBounds_toArray, set_cons_zero, set_cons_succ]
        refine goes_take0 (i := 5) (v := (.bool false)) rfl (by kernel_rfl) (by kernel_rfl) (by kernel_rfl) rfl (fun _ _ _ h => h) (Or.inl ⟨by rfl, ?hy69⟩) (by assumption) ?hr69
        case hy69 => (intro W9 hW9; obtain ⟨k0, k1, k2, k3, k4, k5⟩ := hW9; first | (go_simp; done) | (go_simp; with_reducible rfl))
        simp only [Act.put, getElem_toArray, getElem_cons_succ, getElem_cons_zero, setIfInBounds_toArray, set_cons_zero, set_cons_succ]
        refine goes_take0 (i := 6) (v := ?hv70) rfl (by kernel_rfl) (by kernel_rfl) (by kernel_rfl) rfl (fun _ _ _ h => h) (Or.inl ⟨by rfl, ?hy70⟩) (by assumption) ?hr70
        case hy70 => (intro W9 hW9; obtain ⟨k0, k1, k2, k3, k4, k5⟩ := hW9; first | (go_simp; done) | (go_simp; with_reducible rfl))
        simp only [Act.put, getElem_toArray, getElem_cons_succ, getElem_cons_zero, setIfInBounds_toArray, set_cons_zero, set_cons_succ]
        refine goes_take0 (i := 7) (v := ?hv71) rfl (by kernel_rfl) (by kernel_rfl) (by kernel_rfl) rfl (fun _ _ _ h => h) (Or.inl ⟨by rfl, ?hy71⟩) (by assumption) ?hr71
        case hy71 => (intro W9 hW9; obtain ⟨k0, k1, k2, k3, k4, k5⟩ := hW9; first | (go_simp; done) | (go_simp; with_reducible rfl))
        simp only [Act.put, getElem_toArray, getElem_cons_succ, getElem_cons_zero, setIfInBounds_toArray, set_cons_zero, set_cons_succ]
        refine goes_take0 (i := 8) (v := ?hv72) rfl (by kernel_rfl) (by kernel_rfl) (by kernel_rfl) rfl (fun _ _ _ h => h) (Or.inl ⟨by rfl, ?hy72⟩) (by assumption) ?hr72
        case hy72 => (intro W9 hW9; obtain ⟨k0, k1, k2, k3, k4, k5⟩ := hW9; first | (go_simp; done) | (go_simp; with_reducible rfl))
        simp only [Act.put, getElem_toArray, getElem_cons_succ, getElem_cons_zero, setIfInBounds_toArray, set_cons_zero, set_cons_succ]
        refine goes_one (i := 9) (by kernel_rfl) rfl (fun K9 hK9 => ?_)
        rw [if_pos (by rfl)]
        go_simp
        refine (HIS.out _).mono ?_
        rintro e w9 ⟨rfl, e9⟩
        subst e9
        obtain ⟨k0, k1, k2, k3, k4, k5⟩ := hHeld
        refine hK9.out _ _ (fun _ => ⟨k0, k1, k2, k3, k4, k5⟩) (fun hHeld => ?_)
        have hHeld := hHeld (by decide)
        clear hK9 K9 k0 k1 k2 k3 k4 k5
        refine goes_take0 (i := 10) (v := (.bool false)) rfl (by kernel_rfl) (by kernel_rfl) (by kernel_rfl) rfl (fun _ _ _ h => h) (Or.inl ⟨by rfl, ?hy73⟩) (by assumption) ?hr73
        case hy73 => (intro W9 hW9; obtain ⟨k0, k1, k2, k3, k4, k5⟩ := hW9; first | (go_simp; done) | (go_simp; with_reducible rfl))
        simp only [Act.put, getElem_toArray, getElem_cons_succ, getElem_cons_zero, setIfInBounds_toArray, set_cons_zero, set_cons_succ]
        refine goes_take0 (i := 11) (v := (.bool false)) rfl (by kernel_rfl) (by kernel_rfl) (by kernel_rfl) rfl (fun _ _ _ h => h) (Or.inl ⟨by rfl, ?hy74⟩) (by assumption) ?hr74
        case hy74 => (intro W9 hW9; obtain ⟨k0, k1, k2, k3, k4, k5⟩ := hW9; first | (go_simp; done) | (go_simp; with_reducible rfl))
        simp only [Act.put, getElem_toArray, getElem_cons_succ, getElem_cons_zero, setIfInBounds_toArray, set_cons_zero, set_cons_succ]
        refine goes_take0 (i := 12) (v := (.bool false)) rfl (by kernel_rfl) (by kernel_rfl) (by kernel_rfl) rfl (fun _ _ _ h => h) (Or.inl ⟨by rfl, ?hy75⟩) (by assumption) ?hr75
        case hy75 => (intro W9 hW9; obtain ⟨k0, k1, k2, k3, k4, k5⟩ := hW9; first | (go_simp; done) | (go_simp; with_reducible rfl))
        simp only [Act.put, getElem_toArray, getElem_cons_succ, getElem_cons_zero, setIfInBounds_toArray, set_cons_zero, set_cons_succ]
        refine goes_take0 (i := 13) (v := ?hv76) rfl (by kernel_rfl) (by kernel_rfl) (by kernel_rfl) rfl (fun _ _ _ h => h) (Or.inl ⟨by rfl, ?hy76⟩) (by assumption) ?hr76
        case hy76 => (intro W9 hW9; obtain ⟨k0, k1, k2, k3, k4, k5⟩ := hW9; first | (go_simp; done) | (go_simp; with_reducible rfl))
        simp only [Act.put, getElem_toArray, getElem_cons_succ, getElem_cons_zero, setIfInBounds_toArray, set_cons_zero, set_cons_succ]
        refine goes_take0 (i := 14) (v := (.bool true)) rfl (by kernel_rfl) (by kernel_rfl) (by kernel_rfl) rfl (fun _ _ _ h => h) (Or.inl ⟨by rfl, ?hy77⟩) (by assumption) ?hr77
        case hy77 => (intro W9 hW9; obtain ⟨k0, k1, k2, k3, k4, k5⟩ := hW9; first | (go_simp; done) | (go_simp; with_reducible rfl))
        simp only [Act.put, getElem_toArray, getElem_cons_succ, getElem_cons_zero, setIfInBounds_toArray, set_cons_zero, set_cons_succ]
        refine goes_take0 (i := 15) (v := (.bool true)) rfl (by kernel_rfl) (by kernel_rfl) (by kernel_rfl) rfl (fun _ _ _ h => h) (Or.inl ⟨by rfl, ?hy78⟩) (by assumption) ?hr78
        case hy78 => (intro W9 hW9; obtain ⟨k0, k1, k2, k3, k4, k5⟩ := hW9; first | (go_simp; done) | (go_simp; with_reducible rfl))
        simp only [Act.put, getElem_toArray, getElem_cons_succ, getElem_cons_zero, setIfInBounds_toArray, set_cons_zero, set_cons_succ]
        refine goes_take0 (i := 16) (v := ?hv79) rfl (by kernel_rfl) (by kernel_rfl) (by kernel_rfl) rfl (fun _ _ _ h => h) (Or.inl ⟨by rfl, ?hy79⟩) (by assumption) ?hr79
        case hy79 => (intro W9 hW9; obtain ⟨k0, k1, k2, k3, k4, k5⟩ := hW9; first | (go_simp; done) | (go_simp; with_reducible rfl))
        simp only [Act.put, getElem_toArray, getElem_cons_succ, getElem_cons_zero, setIfInBounds_toArray, set_cons_zero, set_cons_succ]
        refine goes_take0 (i := 17) (v := ?hv80) rfl (by kernel_rfl) (by kernel_rfl) (by kernel_rfl) rfl (fun _ _ _ h => h) (Or.inl ⟨by rfl, ?hy80⟩) (by assumption) ?hr80
        case hy80 => (intro W9 hW9; obtain ⟨k0, k1, k2, k3, k4, k5⟩ := hW9; first | (go_simp; done) | (go_simp; with_reducible rfl))
        simp only [Act.put, getElem_toArray, getElem_cons_succ, getElem_cons_zero, setIfInBounds_toArray, set_cons_zero, set_cons_succ]
        refine goes_take0 (i := 18) (v := (.int .i64 (j : Int))) rfl (by kernel_rfl) (by kernel_rfl) (by kernel_rfl) rfl (fun _ _ _ h => h) (Or.inl ⟨by rfl, ?hy81⟩) (by assumption) ?hr81
        case hy81 => (intro W9 hW9; obtain ⟨k0, k1, k2, k3, k4, k5⟩ := hW9; first | (go_simp; done) | (go_simp; with_reducible rfl))
        simp only [Act.put, getElem_toArray, getElem_cons_succ, getElem_cons_zero, setIfInBounds_toArray, set_cons_zero, set_cons_succ]
        refine goes_take0 (i := 19) (v := ?hv82) rfl (by kernel_rfl) (by kernel_rfl) (by kernel_rfl) rfl (fun _ _ _ h => h) (Or.inl ⟨by rfl, ?hy82⟩) (by assumption) ?hr82
        case hy82 => (intro W9 hW9; obtain ⟨k0, k1, k2, k3, k4, k5⟩ := hW9; first | (go_simp; done) | (go_simp; with_reducible rfl))
        simp only [Act.put, getElem_toArray, getElem_cons_succ, getElem_cons_zero, setIfInBounds_toArray, set_cons_zero, set_cons_succ]
        refine goes_take0 (i := 20) (v := ?hv83) rfl (by kernel_rfl) (by kernel_rfl) (by kernel_rfl) rfl (fun _ _ _ h => h) (Or.inl ⟨by rfl, ?hy83⟩) (by assumption) ?hr83
        case hy83 => (intro W9 hW9; obtain ⟨k0, k1, k2, k3, k4, k5⟩ := hW9; first | (go_simp; done) | (go_simp; with_reducible rfl))
        simp only [Act.put, getElem_toArray, getElem_cons_succ, getElem_cons_zero, setIfInBounds_toArray, set_cons_zero, set_cons_succ]
        refine goes_take0 (i := 21) (v := ?hv84) rfl (by kernel_rfl) (by kernel_rfl) (by kernel_rfl) rfl (fun _ _ _ h => h) (Or.inl ⟨by rfl, ?hy84⟩) (by assumption) ?hr84
        case hy84 => (intro W9 hW9; obtain ⟨k0, k1, k2, k3, k4, k5⟩ := hW9; first | (go_simp; done) | (go_simp; with_reducible rfl))
        simp only [Act.put, getElem_toArray, getElem_cons_succ, getElem_cons_zero, setIfInBounds_toArray, set_cons_zero, set_cons_succ]
        refine goes_one (i := 22) (by kernel_rfl) rfl (fun K9 hK9 => ?_)
        rw [if_pos (by rfl)]
        go_simp
        refine (HFO.out _).mono ?_
        rintro e w22 ⟨rfl, hb22⟩
        obtain ⟨k0, k1, k2, k3, k4, k5⟩ := hHeld
        refine hK9.out _ _ (fun _ => ⟨cell_below hb22 k0, cell_below hb22 k1, cell_below hb22 k2, cell_below hb22 k3, cell_below hb22 k4, cell_below hb22 k5⟩) (fun hHeld => ?_)
        have hHeld := hHeld (by decide)
        clear hK9 K9 k0 k1 k2 k3 k4 k5
        refine goes_take0 (i := 23) (v := (.bool false)) rfl (by kernel_rfl) (by kernel_rfl) (by kernel_rfl) rfl (fun _ _ _ h => h) (Or.inl ⟨by rfl, ?hy85⟩) (by assumption) ?hr85
        case hy85 => (intro W9 hW9; obtain ⟨k0, k1, k2, k3, k4, k5⟩ := hW9; first | (go_simp; done) | (go_simp; with_reducible rfl))
        simp only [Act.put, getElem_toArray, getElem_cons_succ, getElem_cons_zero, setIfInBounds_toArray, set_cons_zero, set_cons_succ]
        refine goes_take0 (i := 24) (v := (.bool false)) rfl (by kernel_rfl) (by kernel_rfl) (by kernel_rfl) rfl (fun _ _ _ h => h) (Or.inl ⟨by rfl, ?hy86⟩) (by assumption) ?hr86
        case hy86 => (intro W9 hW9; obtain ⟨k0, k1, k2, k3, k4, k5⟩ := hW9; first | (go_simp; done) | (go_simp; with_reducible rfl))
        simp only [Act.put, getElem_toArray, getElem_cons_succ, getElem_cons_zero, setIfInBounds_toArray, set_cons_zero, set_cons_succ]
        refine goes_take0 (i := 25) (v := (.bool false)) rfl (by kernel_rfl) (by kernel_rfl) (by kernel_rfl) rfl (fun _ _ _ h => h) (Or.inl ⟨by rfl, ?hy87⟩) (by assumption) ?hr87
        case hy87 => (intro W9 hW9; obtain ⟨k0, k1, k2, k3, k4, k5⟩ := hW9; first | (go_simp; done) | (go_simp; with_reducible rfl))
        simp only [Act.put, getElem_toArray, getElem_cons_succ, getElem_cons_zero, setIfInBounds_toArray, set_cons_zero, set_cons_succ]
        refine goes_done (by kernel_rfl) ?_ _
        go_wp2
        go_roundw
        case rel => exact ⟨k + 1, num_succ k, hlt, HY, Lib.hid (HBD.out.trans (hb22.mono HBD.out.size))⟩
        case measure => simp [intOf]; omega
    · have hdd : decide ((k : Int) < l.length) = false := decide_eq_false (by omega)
      have hdn : decide (k < l.length) = false := decide_eq_false hlt
      have HR := Lib.hid (show fitsB n l = true from fits_iff.2 fun i hi => HF.out i hi (by omega))
      clear hlt HF
      go_wp2
      go_ret
      exact ⟨by rw [HR.out]; rfl, HB.out⟩
theorem check_not {m : List Sta} {i : Nat} (hi : i < m.length) (h : fitsB m.length m[i].arcs = false) : checkB m = false := by
  rw [Bool.eq_false_iff]
  intro h1
  unfold checkB at h1
  rw [Bool.and_eq_true, List.all_eq_true] at h1
  rw [h1.2 _ (List.getElem_mem hi)] at h
  cases h
theorem check_yes {m : List Sta} (hl : m.length ≤ 4096) (h : ∀ i (hi : i < m.length), fitsB m.length m[i].arcs = true) : checkB m = true := by
  unfold checkB
  rw [Bool.and_eq_true, List.all_eq_true]
  refine ⟨decide_eq_true hl, fun s hs => ?_⟩
  obtain ⟨i, hi, rfl⟩ := List.getElem_of_mem hs
  exact h i hi
theorem check_big {m : List Sta} (hl : ¬ m.length ≤ 4096) : checkB m = false := by
  unfold checkB
  rw [decide_eq_false hl]; rfl
def Mays (m : List Sta) : Prop := ∀ s ∈ m, s.may
def errV (b : Bool) : Int := if b then 0 else 110
set_option linter.unusedSimpArgs false in
set_option maxHeartbeats 2000000 in
theorem check_any (v : Value) (m : List Sta) (w : World) (hv : MachAt w v m) (hl : ∀ s ∈ m, s.arcs.length < 9223372036854775808) (hm : Mays m) :
    Calls Try.prog 52 #[v] w fun e w' => e = .returned (.int .i64 (errV (checkB m))) ∧ Below w.heap.size w w' := by
  have HV := Lib.hid (show ∀ wr, Below w.heap.size w wr → MachAt wr v m from fun wr hb => hv.below hb)
  obtain ⟨av, cv, rfl⟩ := hv.len
  have HM := Lib.hid hm
  have HL := Lib.hid hl
  clear hv hm hl
  by_cases hbig : m.length ≤ 4096
  · have d1 : decide ((m.length : Int) > 4096) = false := decide_eq_false (by omega)
    have d2 : decide ((4096 : Int) < m.length) = false := decide_eq_false (by omega)
    have d3 : decide (4096 < m.length) = false := decide_eq_false (by omega)
    go_enter Try.func52, Try.ntmps52
    go_wp2
    clear d1 d2 d3
    go_loopw [10] (fun z wr => ∃ k : Nat, z = .int .i64 k ∧ k ≤ m.length ∧ Hid (∀ i (h : i < m.length), i < k → fitsB m.length m[i].arcs = true) ∧ Hid (Below w.heap.size w wr)) (fun z _ => m.length - (intOf z).toNat)
    case atStart => exact ⟨0, rfl, Nat.zero_le _, Lib.hid (fun i _ h => by omega), Lib.hid (Below.refl _ _)⟩
    case round =>
      obtain ⟨k, rfl, hk, HF, HB⟩ := hrel
      by_cases hlt : k < m.length
      · have hdd : decide ((k : Int) < m.length) = true := decide_eq_true (by omega)
        obtain ⟨b, o, va, rfl, e0, e1, ha⟩ := (HV.out wr HB.out).at rfl hlt
        obtain ⟨aa, ca, rfl⟩ := ha.len
        have hms := HM.out m[k] (List.getElem_mem hlt)
        have hls := HL.out m[k] (List.getElem_mem hlt)
        have hb1 := new_one wr (.cells #[.int .u64 m[k].acc, .slice aa m[k].arcs.length ca] 42)
        have HFI := Lib.hid (arcsFit_any (.slice aa m[k].arcs.length ca) m[k].arcs m.length _ (ha.below hb1) hls hms.2)
        have HB1 := Lib.hid (HB.out.trans (hb1.mono HB.out.size))
        have HNO := Lib.hid (check_not hlt)
        have HYES := Lib.hid (show fitsB m.length m[k].arcs = true → ∀ i (h : i < m.length), i < k + 1 → fitsB m.length m[i].arcs = true from fun h i hi hik => by
          rcases Nat.lt_succ_iff_lt_or_eq.1 hik with h1 | rfl
          · exact HF.out i hi h1
          · exact h)
        clear ha hms hls hb1 HF
        generalize m[k].acc = ac at *
        generalize m[k].arcs = l at *
        cases hfi : fitsB m.length l
        · rw [hfi] at HFI
          have HR := Lib.hid (HNO.out hfi)
          clear hfi HNO HYES
          go_wp2_with (go_at_call 64; refine HFI.out.mono ?_; rintro e w5 ⟨rfl, hb5⟩)
          go_ret
          exact ⟨by rw [HR.out]; rfl, HB1.out.trans (hb5.mono HB1.out.size)⟩
        · rw [hfi] at HFI
          have HY := Lib.hid (HYES.out hfi)
          clear hfi HNO HYES
          go_wp2_with (go_at_call 64; refine HFI.out.mono ?_; rintro e w5 ⟨rfl, hb5⟩)
          go_roundw
          case rel => exact ⟨k + 1, num_succ k, hlt, HY, Lib.hid (HB1.out.trans (hb5.mono HB1.out.size))⟩
          case measure => simp [intOf]; omega
      · have hdd : decide ((k : Int) < m.length) = false := decide_eq_false (by omega)
        have hdn : decide (k < m.length) = false := decide_eq_false hlt
        have HR := Lib.hid (show checkB m = true from check_yes hbig fun i hi => HF.out i hi (by omega))
        clear hlt HF
        go_wp2
        go_ret
        exact ⟨by rw [HR.out]; rfl, HB.out⟩
  · have d1 : decide ((m.length : Int) > 4096) = true := decide_eq_true (by omega)
    have d2 : decide ((4096 : Int) < m.length) = true := decide_eq_true (by omega)
    have d3 : 4096 < m.length := by omega
    have HR := Lib.hid (check_big hbig)
    clear hbig
    go_enter Try.func52, Try.ntmps52
    go_wp2
    go_ret
    exact ⟨by rw [HR.out]; rfl, Below.refl _ _⟩
end Go.Proofs.Ytamgldhnfcikbaa
set_option maxRecDepth 100000
namespace Go.Proofs.Ytamgldhnfcikbaa
open Go.RowKit

set_option maxHeartbeats 2000000 in
theorem rnext_any (v : Value) (m : List Sta) (s : Int) (c : Nat) (w : World) (hv : MachAt w v m) (hl : ∀ s ∈ m, s.arcs.length < 9223372036854775808) (hm : Mays m) :
    Calls Try.prog 27 #[v, .int .i64 s, .int .u8 c] w fun e w' => e = .returned (.int .i64 (nextS m s c)) ∧ w' = w := by
  obtain ⟨av, cv, rfl⟩ := hv.len
  by_cases h0 : 0 ≤ s
  · have d1 : decide (s < 0) = false := decide_eq_false (by omega)
    by_cases h1 : s < m.length
    · have d2 : decide (s ≥ (m.length : Int)) = false := decide_eq_false (by omega)
      have d3 : decide ((m.length : Int) ≤ s) = false := decide_eq_false (by omega)
      obtain ⟨k, rfl⟩ : ∃ k : Nat, s = k := ⟨s.toNat, by omega⟩
      have hk : k < m.length := by omega
      have d4 : decide (m.length ≤ k) = false := decide_eq_false (by omega)
      obtain ⟨b, o, va, rfl, e0, e1, ha⟩ := hv.at rfl hk
      have HN := Lib.hid (show nextS m k c = firstTo m[k].arcs c from by
        unfold nextS
        rw [dif_pos ⟨by omega, by simpa using hk⟩]
        simp)
      have hls := hl m[k] (List.getElem_mem hk)
      have hms := (hm m[k] (List.getElem_mem hk)).2
      have HMS := Lib.hid hms
      clear hv hl hm e0 hms
      generalize m[k].arcs = l at *
      obtain ⟨aa, ca, rfl⟩ := ha.len
      have HA := Lib.hid ha
      clear ha h1
      go_enter Try.func27, Try.ntmps27
      go_wp2
      go_loopw [8] (fun z wr => ∃ i : Nat, z = .int .i64 i ∧ i ≤ l.length ∧ Hid (∀ j (h : j < l.length), j < i → l[j].has c = false) ∧ wr = w) (fun z _ => l.length - (intOf z).toNat)
      case atStart => exact ⟨0, rfl, Nat.zero_le _, Lib.hid (fun _ _ h => by omega), rfl⟩
      case round =>
        obtain ⟨i, rfl, hi, HF, rfl⟩ := hrel
        by_cases hlt : i < l.length
        · have hdd : decide ((i : Int) < l.length) = true := decide_eq_true (by omega)
          obtain ⟨b2, o2, rfl, a0, a1, a2⟩ := HA.out.at rfl hlt
          have HYES := Lib.hid (fun hb => firstTo_at (b := c) hlt HF.out hb)
          have HNO := Lib.hid (show l[i].has c = false → ∀ j (h : j < l.length), j < i + 1 → l[j].has c = false from fun h j hj hji => by
            rcases Nat.lt_succ_iff_lt_or_eq.1 hji with h1 | rfl
            · exact HF.out j hj h1
            · exact h)
          clear HF
          generalize l[i] = x at *
          by_cases h2 : x.lo ≤ c
          · have f1 : decide ((x.lo : Int) ≤ c) = true := decide_eq_true (by omega)
            by_cases h3 : c ≤ x.hi
            · have f2 : decide ((c : Int) ≤ x.hi) = true := decide_eq_true (by omega)
              have HR := Lib.hid (HYES.out (by unfold Arc3.has; rw [decide_eq_true h2, decide_eq_true h3]; rfl))
              clear HYES HNO
              go_wp2
              go_ret
              exact ⟨by rw [HN.out, HR.out]; rfl, rfl⟩
            · have f2 : decide ((c : Int) ≤ x.hi) = false := decide_eq_false (by omega)
              have f3 : decide (c ≤ x.hi) = false := decide_eq_false h3
              have HR := Lib.hid (HNO.out (by unfold Arc3.has; rw [f3, Bool.and_false]))
              clear HYES HNO h3
              go_wp2
              exact ⟨⟨i + 1, rfl, hlt, HR, trivial⟩, by simp only [intOf]; omega⟩
          · have f1 : decide ((x.lo : Int) ≤ c) = false := decide_eq_false (by omega)
            have f3 : decide (x.lo ≤ c) = false := decide_eq_false h2
            have HR := Lib.hid (HNO.out (by unfold Arc3.has; rw [f3, Bool.false_and]))
            clear HYES HNO h2
            go_wp2
            exact ⟨⟨i + 1, rfl, hlt, HR, trivial⟩, by simp only [intOf]; omega⟩
        · have hdd : decide ((i : Int) < l.length) = false := decide_eq_false (by omega)
          have hdn : decide (i < l.length) = false := decide_eq_false hlt
          have HR := Lib.hid (show firstTo l c = -1 from firstTo_none fun j hj _ => HF.out j hj (by omega))
          clear hlt HF
          go_wp2
          go_ret
          exact ⟨by rw [HN.out, HR.out]; rfl, rfl⟩
    · have d2 : decide (s ≥ (m.length : Int)) = true := decide_eq_true (by omega)
      have d3 : decide ((m.length : Int) ≤ s) = true := decide_eq_true (by omega)
      have HN := Lib.hid (show nextS m s c = -1 from by unfold nextS; rw [dif_neg (by omega)])
      clear h1 hv hl hm
      go_enter Try.func27, Try.ntmps27
      go_wp2
      go_ret
      exact ⟨by rw [HN.out]; rfl, rfl⟩
  · have d1 : decide (s < 0) = true := decide_eq_true (by omega)
    have HN := Lib.hid (show nextS m s c = -1 from by unfold nextS; rw [dif_neg (by omega)])
    clear h0 hv hl hm
    go_enter Try.func27, Try.ntmps27
    go_wp2
    go_ret
    exact ⟨by rw [HN.out]; rfl, rfl⟩
end Go.Proofs.Ytamgldhnfcikbaa
set_option maxRecDepth 100000
namespace Go.Proofs.Ytamgldhnfcikbaa
open Go.RowKit

end Go.Proofs.Ytamgldhnfcikbaa
