/- Texts that a proof rests on: Contract: the reference's comparison of two machines. -/
import Derived.Test.YtamgldhnfcikbaaK05
import Derived.Laws.StructEq
set_option maxRecDepth 100000
namespace Go.Proofs.Ytamgldhnfcikbaa
open List (getElem_toArray getElem_cons_succ getElem_cons_zero setIfInBounds_toArray set_cons_zero set_cons_succ)
open Go.RowKit

noncomputable def sameB (a b : List Sta) : Bool := @decide (a = b) (Classical.propDecidable _)
theorem sameB_true {a b : List Sta} : sameB a b = true ↔ a = b := @decide_eq_true_iff _ (Classical.propDecidable _)
theorem sameB_false {a b : List Sta} (h : a ≠ b) : sameB a b = false := by
  rw [Bool.eq_false_iff]
  exact fun h1 => h (sameB_true.1 h1)
theorem arc_eq {x y : Arc3} (h : ((x.lo : Int) == y.lo && ((x.hi : Int) == y.hi && x.dest == y.dest)) = true) : x = y := by
  simp only [Bool.and_eq_true, beq_iff_eq] at h
  obtain ⟨h0, h1, h2⟩ := h
  cases x; cases y
  simp only [Arc3.mk.injEq] at h0 h1 h2 ⊢
  exact ⟨by omega, by omega, h2⟩
set_option linter.unusedSimpArgs false in
set_option maxHeartbeats 4000000 in
theorem rsame07_any (v u : Value) (m n : List Sta) (w : World) (hv : MachAt w v m) (hu : MachAt w u n) (hm : m.length < 9223372036854775808) (hl : ∀ s ∈ m, s.arcs.length < 9223372036854775808) (hln : ∀ s ∈ n, s.arcs.length < 9223372036854775808) :
    Calls Try.prog 7 #[v, u] w fun e w' => e = .returned (.bool (sameB m n)) ∧ Below w.heap.size w w' := by
  obtain ⟨av, cv, rfl⟩ := hv.len
  obtain ⟨au, cu, rfl⟩ := hu.len
  have mixed : Try.prog.follows .mixedOrders = true := by kernel_rfl
  have HV := Lib.hid hv
  have HU := Lib.hid hu
  have HL := Lib.hid hl
  have HLN := Lib.hid hln
  clear hv hu hl hln
  by_cases hmn : m.length = n.length
  · have HMN := Lib.hid hmn
    rw [← hmn]
    clear hmn
    go_enter Try.func7, Try.ntmps7
    go_wp2
    go_loopw [5] (fun z wr => ∃ k : Nat, z = .int .i64 k ∧ k ≤ m.length ∧ Hid (m.take k = n.take k) ∧ Hid (Below w.heap.size w wr)) (fun z _ => m.length - (intOf z).toNat)
    case atStart => exact ⟨0, rfl, Nat.zero_le _, Lib.hid rfl, Lib.hid (Below.refl _ _)⟩
    case round =>
      obtain ⟨k, rfl, hk, HT, HB⟩ := hrel
      by_cases hlt : k < m.length
      · have hdd : decide ((k : Int) < m.length) = true := decide_eq_true (by omega)
        have hkn : k < n.length := by have := HMN.out; omega
        have hbd : Below w.heap.size w wr.drew := HB.out.trans ((Below.refl _ wr).drew.mono HB.out.size)
        obtain ⟨b1, o1, va, rfl, e0, e1, ha⟩ := HV.out.at rfl hlt
        obtain ⟨b2, o2, vb, rfl, f0, f1, hb⟩ := HU.out.at rfl hkn
        obtain ⟨aa, ca, rfl⟩ := ha.len
        obtain ⟨ba, cb, rfl⟩ := hb.len
        have hls := HL.out m[k] (List.getElem_mem hlt)
        have hlr := HLN.out n[k] (List.getElem_mem hkn)
        have HNE := Lib.hid (show m[k] ≠ n[k] → sameB m n = false from fun h => sameB_false fun e => h (by subst e; rfl))
        have HEQ1 := Lib.hid (show m[k] = n[k] → m.take (k + 1) = n.take (k + 1) from fun h => by rw [List.take_succ_eq_append_getElem hlt, List.take_succ_eq_append_getElem hkn, HT.out, h])
        have HA := Lib.hid ha
        have HBR := Lib.hid hb
        have E1 := Lib.hid e1
        have F1 := Lib.hid f1
        clear ha hb HT
        generalize m[k] = mk at *
        generalize n[k] = nk at *
        obtain ⟨p, l⟩ := mk
        obtain ⟨q, r⟩ := nk
        simp only at *
        replace e0 := cell_below hbd e0
        replace f0 := cell_below hbd f0
        replace e1 := cell_below hbd e1
        replace f1 := cell_below hbd f1
        have HBD := Lib.hid hbd
        clear hbd hkn
        by_cases hpq : p = q
        · subst hpq
          have q1 : ((p : Int) != p) = false := by simp
          by_cases hlr2 : l.length = r.length
          · have q2 : ((l.length : Int) != r.length) = false := by simp [hlr2]
            have q3 : (l.length != r.length) = false := by simp [hlr2]
            have HLR := Lib.hid hlr2
            clear hlr2
            go_wp2
            refine region_goes 126 26 rfl (fun W => W.cell? ⟨b1, o1 + k * 2, none⟩ = some (.int .u64 p) ∧ W.cell? ⟨b2, o2 + k * 2, none⟩ = some (.int .u64 p) ∧ W.cell? ⟨b1, o1 + k * 2 + 1, none⟩ = some (.slice aa l.length ca) ∧ W.cell? ⟨b2, o2 + k * 2 + 1, none⟩ = some (.slice ba r.length cb)) mixed ⟨e0, f0, e1, f1⟩ (fun hHeld => ?_)
            refine goes_take0 (i := 0) (v := ?hv1) rfl (by kernel_rfl) (by kernel_rfl) (by kernel_rfl) rfl (fun _ _ _ h => h) (Or.inl ⟨by rfl, ?hy1⟩) (by assumption) ?hr1
            case hy1 => (intro W9 hW9; obtain ⟨k0, k1, k2, k3⟩ := hW9; first | (go_simp; done) | (go_simp; with_reducible rfl))
            simp only [Act.put, getElem_toArray, getElem_cons_succ, getElem_cons_zero, setIfInBounds_toArray, set_cons_zero, set_cons_succ]
            refine goes_take0 (i := 1) (v := ?hv2) rfl (by kernel_rfl) (by kernel_rfl) (by kernel_rfl) rfl (fun _ _ _ h => h) (Or.inl ⟨by rfl, ?hy2⟩) (by assumption) ?hr2
            case hy2 => (intro W9 hW9; obtain ⟨k0, k1, k2, k3⟩ := hW9; first | (go_simp; done) | (go_simp; with_reducible rfl))
            simp only [Act.put, getElem_toArray, getElem_cons_succ, getElem_cons_zero, setIfInBounds_toArray, set_cons_zero, set_cons_succ]
            refine goes_take0 (i := 2) (v := ?hv3) rfl (by kernel_rfl) (by kernel_rfl) (by kernel_rfl) rfl (fun _ _ _ h => h) (Or.inl ⟨by rfl, ?hy3⟩) (by assumption) ?hr3
            case hy3 => (intro W9 hW9; obtain ⟨k0, k1, k2, k3⟩ := hW9; first | (go_simp; done) | (go_simp; with_reducible rfl))
            simp only [Act.put, getElem_toArray, getElem_cons_succ, getElem_cons_zero, setIfInBounds_toArray, set_cons_zero, set_cons_succ]
            refine goes_take0 (i := 3) (v := ?hv4) rfl (by kernel_rfl) (by kernel_rfl) (by kernel_rfl) rfl (fun _ _ _ h => h) (Or.inl ⟨by rfl, ?hy4⟩) (by assumption) ?hr4
            case hy4 => (intro W9 hW9; obtain ⟨k0, k1, k2, k3⟩ := hW9; first | (go_simp; done) | (go_simp; with_reducible rfl))
            simp only [Act.put, getElem_toArray, getElem_cons_succ, getElem_cons_zero, setIfInBounds_toArray, set_cons_zero, set_cons_succ]
            refine goes_take0 (i := 4) (v := ?hv5) rfl (by kernel_rfl) (by kernel_rfl) (by kernel_rfl) rfl (fun _ _ _ h => h) (Or.inl ⟨by rfl, ?hy5⟩) (by assumption) ?hr5
            case hy5 => (intro W9 hW9; obtain ⟨k0, k1, k2, k3⟩ := hW9; first | (go_simp; done) | (go_simp; with_reducible rfl))
            simp only [Act.put, getElem_toArray, getElem_cons_succ, getElem_cons_zero, setIfInBounds_toArray, set_cons_zero, set_cons_succ]
            refine goes_take0 (i := 5) (v := ?hv6) rfl (by kernel_rfl) (by kernel_rfl) (by kernel_rfl) rfl (fun _ _ _ h => h) (Or.inl ⟨by rfl, ?hy6⟩) (by assumption) ?hr6
            case hy6 => (intro W9 hW9; obtain ⟨k0, k1, k2, k3⟩ := hW9; first | (go_simp; done) | (go_simp; with_reducible rfl))
            simp only [Act.put, getElem_toArray, getElem_cons_succ, getElem_cons_zero, setIfInBounds_toArray, set_cons_zero, set_cons_succ]
            refine goes_take0 (i := 6) (v := ?hv7) rfl (by kernel_rfl) (by kernel_rfl) (by kernel_rfl) rfl (fun _ _ _ h => h) (Or.inl ⟨by rfl, ?hy7⟩) (by assumption) ?hr7
            case hy7 => (intro W9 hW9; obtain ⟨k0, k1, k2, k3⟩ := hW9; first | (go_simp; done) | (go_simp; with_reducible rfl))
            simp only [Act.put, getElem_toArray, getElem_cons_succ, getElem_cons_zero, setIfInBounds_toArray, set_cons_zero, set_cons_succ]
            refine goes_take0 (i := 7) (v := ?hv8) rfl (by kernel_rfl) (by kernel_rfl) (by kernel_rfl) rfl (fun _ _ _ h => h) (Or.inl ⟨by rfl, ?hy8⟩) (by assumption) ?hr8
            case hy8 => (intro W9 hW9; obtain ⟨k0, k1, k2, k3⟩ := hW9; first | (go_simp; done) | (go_simp; with_reducible rfl))
            simp only [Act.put, getElem_toArray, getElem_cons_succ, getElem_cons_zero, setIfInBounds_toArray, set_cons_zero, set_cons_succ]
            refine goes_take0 (i := 8) (v := ?hv9) rfl (by kernel_rfl) (by kernel_rfl) (by kernel_rfl) rfl (fun _ _ _ h => h) (Or.inl ⟨by rfl, ?hy9⟩) (by assumption) ?hr9
            case hy9 => (intro W9 hW9; obtain ⟨k0, k1, k2, k3⟩ := hW9; first | (go_simp; done) | (go_simp; with_reducible rfl))
            simp only [Act.put, getElem_toArray, getElem_cons_succ, getElem_cons_zero, setIfInBounds_toArray, set_cons_zero, set_cons_succ]
            refine goes_take0 (i := 9) (v := ?hv10) rfl (by kernel_rfl) (by kernel_rfl) (by kernel_rfl) rfl (fun _ _ _ h => h) (Or.inl ⟨by rfl, ?hy10⟩) (by assumption) ?hr10
            case hy10 => (intro W9 hW9; obtain ⟨k0, k1, k2, k3⟩ := hW9; first | (go_simp; done) | (go_simp; with_reducible rfl))
            simp only [Act.put, getElem_toArray, getElem_cons_succ, getElem_cons_zero, setIfInBounds_toArray, set_cons_zero, set_cons_succ]
            refine goes_take0 (i := 10) (v := (.bool false)) rfl (by kernel_rfl) (by kernel_rfl) (by kernel_rfl) rfl (fun _ _ _ h => h) (Or.inl ⟨by rfl, ?hy11⟩) (by assumption) ?hr11
            case hy11 => (intro W9 hW9; obtain ⟨k0, k1, k2, k3⟩ := hW9; first | (go_simp; done) | (go_simp; with_reducible rfl))
            simp only [Act.put, getElem_toArray, getElem_cons_succ, getElem_cons_zero, setIfInBounds_toArray, set_cons_zero, set_cons_succ]
            refine goes_take0 (i := 11) (v := (.bool false)) rfl (by kernel_rfl) (by kernel_rfl) (by kernel_rfl) rfl (fun _ _ _ h => h) (Or.inl ⟨by rfl, ?hy12⟩) (by assumption) ?hr12
            case hy12 => (intro W9 hW9; obtain ⟨k0, k1, k2, k3⟩ := hW9; first | (go_simp; done) | (go_simp; with_reducible rfl))
            simp only [Act.put, getElem_toArray, getElem_cons_succ, getElem_cons_zero, setIfInBounds_toArray, set_cons_zero, set_cons_succ]
            refine goes_take0 (i := 12) (v := ?hv13) rfl (by kernel_rfl) (by kernel_rfl) (by kernel_rfl) rfl (fun _ _ _ h => h) (Or.inl ⟨by rfl, ?hy13⟩) (by assumption) ?hr13
            case hy13 => (intro W9 hW9; obtain ⟨k0, k1, k2, k3⟩ := hW9; first | (go_simp; done) | (go_simp; with_reducible rfl))
            simp only [Act.put, getElem_toArray, getElem_cons_succ, getElem_cons_zero, setIfInBounds_toArray, set_cons_zero, set_cons_succ]
            refine goes_take0 (i := 13) (v := ?hv14) rfl (by kernel_rfl) (by kernel_rfl) (by kernel_rfl) rfl (fun _ _ _ h => h) (Or.inl ⟨by rfl, ?hy14⟩) (by assumption) ?hr14
            case hy14 => (intro W9 hW9; obtain ⟨k0, k1, k2, k3⟩ := hW9; first | (go_simp; done) | (go_simp; with_reducible rfl))
            simp only [Act.put, getElem_toArray, getElem_cons_succ, getElem_cons_zero, setIfInBounds_toArray, set_cons_zero, set_cons_succ]
            refine goes_take0 (i := 14) (v := ?hv15) rfl (by kernel_rfl) (by kernel_rfl) (by kernel_rfl) rfl (fun _ _ _ h => h) (Or.inl ⟨by rfl, ?hy15⟩) (by assumption) ?hr15
            case hy15 => (intro W9 hW9; obtain ⟨k0, k1, k2, k3⟩ := hW9; first | (go_simp; done) | (go_simp; with_reducible rfl))
            simp only [Act.put, getElem_toArray, getElem_cons_succ, getElem_cons_zero, setIfInBounds_toArray, set_cons_zero, set_cons_succ]
            refine goes_take0 (i := 15) (v := ?hv16) rfl (by kernel_rfl) (by kernel_rfl) (by kernel_rfl) rfl (fun _ _ _ h => h) (Or.inl ⟨by rfl, ?hy16⟩) (by assumption) ?hr16
            case hy16 => (intro W9 hW9; obtain ⟨k0, k1, k2, k3⟩ := hW9; first | (go_simp; done) | (go_simp; with_reducible rfl))
            simp only [Act.put, getElem_toArray, getElem_cons_succ, getElem_cons_zero, setIfInBounds_toArray, set_cons_zero, set_cons_succ]
            refine goes_take0 (i := 16) (v := ?hv17) rfl (by kernel_rfl) (by kernel_rfl) (by kernel_rfl) rfl (fun _ _ _ h => h) (Or.inl ⟨by rfl, ?hy17⟩) (by assumption) ?hr17
            case hy17 => (intro W9 hW9; obtain ⟨k0, k1, k2, k3⟩ := hW9; first | (go_simp; done) | (go_simp; with_reducible rfl))
            simp only [Act.put, getElem_toArray, getElem_cons_succ, getElem_cons_zero, setIfInBounds_toArray, set_cons_zero, set_cons_succ]
            refine goes_take0 (i := 17) (v := ?hv18) rfl (by kernel_rfl) (by kernel_rfl) (by kernel_rfl) rfl (fun _ _ _ h => h) (Or.inl ⟨by rfl, ?hy18⟩) (by assumption) ?hr18
            case hy18 => (intro W9 hW9; obtain ⟨k0, k1, k2, k3⟩ := hW9; first | (go_simp; done) | (go_simp; with_reducible rfl))
            simp only [Act.put, getElem_toArray, getElem_cons_succ, getElem_cons_zero, setIfInBounds_toArray, set_cons_zero, set_cons_succ]
            refine goes_take0 (i := 18) (v := ?hv19) rfl (by kernel_rfl) (by kernel_rfl) (by kernel_rfl) rfl (fun _ _ _ h => h) (Or.inl ⟨by rfl, ?hy19⟩) (by assumption) ?hr19
            case hy19 => (intro W9 hW9; obtain ⟨k0, k1, k2, k3⟩ := hW9; first | (go_simp; done) | (go_simp; with_reducible rfl))
            simp only [Act.put, getElem_toArray, getElem_cons_succ, getElem_cons_zero, setIfInBounds_toArray, set_cons_zero, set_cons_succ]
            refine goes_take0 (i := 19) (v := ?hv20) rfl (by kernel_rfl) (by kernel_rfl) (by kernel_rfl) rfl (fun _ _ _ h => h) (Or.inl ⟨by rfl, ?hy20⟩) (by assumption) ?hr20
            case hy20 => (intro W9 hW9; obtain ⟨k0, k1, k2, k3⟩ := hW9; first | (go_simp; done) | (go_simp; with_reducible rfl))
            simp only [Act.put, getElem_toArray, getElem_cons_succ, getElem_cons_zero, setIfInBounds_toArray, set_cons_zero, set_cons_succ]
            refine goes_take0 (i := 20) (v := ?hv21) rfl (by kernel_rfl) (by kernel_rfl) (by kernel_rfl) rfl (fun _ _ _ h => h) (Or.inl ⟨by rfl, ?hy21⟩) (by assumption) ?hr21
            case hy21 => (intro W9 hW9; obtain ⟨k0, k1, k2, k3⟩ := hW9; first | (go_simp; done) | (go_simp; with_reducible rfl))
            simp only [Act.put, getElem_toArray, getElem_cons_succ, getElem_cons_zero, setIfInBounds_toArray, set_cons_zero, set_cons_succ]
            refine goes_take0 (i := 21) (v := ?hv22) rfl (by kernel_rfl) (by kernel_rfl) (by kernel_rfl) rfl (fun _ _ _ h => h) (Or.inl ⟨by rfl, ?hy22⟩) (by assumption) ?hr22
            case hy22 => (intro W9 hW9; obtain ⟨k0, k1, k2, k3⟩ := hW9; first | (go_simp; done) | (go_simp; with_reducible rfl))
            simp only [Act.put, getElem_toArray, getElem_cons_succ, getElem_cons_zero, setIfInBounds_toArray, set_cons_zero, set_cons_succ]
            refine goes_take0 (i := 22) (v := ?hv23) rfl (by kernel_rfl) (by kernel_rfl) (by kernel_rfl) rfl (fun _ _ _ h => h) (Or.inl ⟨by rfl, ?hy23⟩) (by assumption) ?hr23
            case hy23 => (intro W9 hW9; obtain ⟨k0, k1, k2, k3⟩ := hW9; first | (go_simp; done) | (go_simp; with_reducible rfl))
            simp only [Act.put, getElem_toArray, getElem_cons_succ, getElem_cons_zero, setIfInBounds_toArray, set_cons_zero, set_cons_succ]
            refine goes_take0 (i := 23) (v := ?hv24) rfl (by kernel_rfl) (by kernel_rfl) (by kernel_rfl) rfl (fun _ _ _ h => h) (Or.inl ⟨by rfl, ?hy24⟩) (by assumption) ?hr24
            case hy24 => (intro W9 hW9; obtain ⟨k0, k1, k2, k3⟩ := hW9; first | (go_simp; done) | (go_simp; with_reducible rfl))
            simp only [Act.put, getElem_toArray, getElem_cons_succ, getElem_cons_zero, setIfInBounds_toArray, set_cons_zero, set_cons_succ]
            refine goes_take0 (i := 24) (v := (.bool false)) rfl (by kernel_rfl) (by kernel_rfl) (by kernel_rfl) rfl (fun _ _ _ h => h) (Or.inl ⟨by rfl, ?hy25⟩) (by assumption) ?hr25
            case hy25 => (intro W9 hW9; obtain ⟨k0, k1, k2, k3⟩ := hW9; first | (go_simp; done) | (go_simp; with_reducible rfl))
            simp only [Act.put, getElem_toArray, getElem_cons_succ, getElem_cons_zero, setIfInBounds_toArray, set_cons_zero, set_cons_succ]
            refine goes_take0 (i := 25) (v := (.bool false)) rfl (by kernel_rfl) (by kernel_rfl) (by kernel_rfl) rfl (fun _ _ _ h => h) (Or.inl ⟨by rfl, ?hy26⟩) (by assumption) ?hr26
            case hy26 => (intro W9 hW9; obtain ⟨k0, k1, k2, k3⟩ := hW9; first | (go_simp; done) | (go_simp; with_reducible rfl))
            simp only [Act.put, getElem_toArray, getElem_cons_succ, getElem_cons_zero, setIfInBounds_toArray, set_cons_zero, set_cons_succ]
            refine goes_done (by kernel_rfl) ?_ _
            go_wp2
            have hk1 : k + 1 ≤ m.length := hlt
            clear e0 f0 e1 f1 q1 q2 q3
            go_loopw [6] (fun z wr => ∃ j : Nat, z = .int .i64 j ∧ j ≤ l.length ∧ Hid (l.take j = r.take j) ∧ Hid (Below w.heap.size w wr)) (fun z _ => l.length - (intOf z).toNat)
            case atStart => exact ⟨0, rfl, Nat.zero_le _, Lib.hid rfl, HBD⟩
            case round =>
              clear HBD hdd
              obtain ⟨j, rfl, hj, HTJ, HBJ⟩ := hrel
              have hbj : Below w.heap.size w wr := HBJ.out
              have e1 := cell_below hbj E1.out
              have f1 := cell_below hbj F1.out
              by_cases hjl : j < l.length
              · have hjr : j < r.length := by have := HLR.out; omega
                have hdj : decide ((j : Int) < l.length) = true := decide_eq_true (by omega)
                obtain ⟨g1, u1, rfl, x0, x1, x2⟩ := HA.out.at rfl hjl
                obtain ⟨g2, u2, rfl, y0, y1, y2⟩ := HBR.out.at rfl hjr
                have HJT := Lib.hid (show l[j] = r[j] → l.take (j + 1) = r.take (j + 1) from fun h => by rw [List.take_succ_eq_append_getElem hjl, List.take_succ_eq_append_getElem hjr, HTJ.out, h])
                have HJN := Lib.hid (show l[j] ≠ r[j] → sameB m n = false from fun h => HNE.out fun e => h (by cases e; rfl))
                clear HTJ
                generalize l[j] = x at *
                generalize r[j] = y at *
                replace x0 := cell_below hbj x0
                replace x1 := cell_below hbj x1
                replace x2 := cell_below hbj x2
                replace y0 := cell_below hbj y0
                replace y1 := cell_below hbj y1
                replace y2 := cell_below hbj y2
                clear hbj
                cases hxy : ((x.lo : Int) == y.lo && ((x.hi : Int) == y.hi && x.dest == y.dest))
                · have HR := Lib.hid (HJN.out (fun e => by subst e; simp at hxy))
                  have HEQ := Lib.hid (show (x.lo : Int) = y.lo → (x.hi : Int) = y.hi → ¬ x.dest = y.dest from fun h1 h2 h3 => by rw [h1, h2, h3] at hxy; simp at hxy)
                  clear hxy HJN HJT
                  go_wp2
                  refine region_goes 117 17 rfl (fun W => W.cell? ⟨b1, o1 + k * 2 + 1, none⟩ = some (.slice (some ⟨g1, u1, none⟩) l.length ca) ∧ W.cell? ⟨b2, o2 + k * 2 + 1, none⟩ = some (.slice (some ⟨g2, u2, none⟩) r.length cb) ∧ W.cell? ⟨g1, u1 + j * 3, none⟩ = some (.int .u8 x.lo) ∧ W.cell? ⟨g1, u1 + j * 3 + 1, none⟩ = some (.int .u8 x.hi) ∧ W.cell? ⟨g1, u1 + j * 3 + 2, none⟩ = some (.int .i64 x.dest) ∧ W.cell? ⟨g2, u2 + j * 3, none⟩ = some (.int .u8 y.lo) ∧ W.cell? ⟨g2, u2 + j * 3 + 1, none⟩ = some (.int .u8 y.hi) ∧ W.cell? ⟨g2, u2 + j * 3 + 2, none⟩ = some (.int .i64 y.dest)) mixed ⟨e1, f1, x0, x1, x2, y0, y1, y2⟩ (fun hHeld => ?_)
                  refine goes_take0 (i := 0) (v := ?hv66) rfl (by kernel_rfl) (by kernel_rfl) (by kernel_rfl) rfl (fun _ _ _ h => h) (Or.inl ⟨by rfl, ?hy66⟩) (by assumption) ?hr66
                  case hy66 => (intro W9 hW9; obtain ⟨k0, k1, k2, k3, k4, k5, k6, k7⟩ := hW9; first | (go_simp; done) | (go_simp; with_reducible rfl))
                  simp only [Act.put, getElem_toArray, getElem_cons_succ, getElem_cons_zero, setIfInBounds_toArray, set_cons_zero, set_cons_succ]
                  refine goes_take0 (i := 1) (v := ?hv67) rfl (by kernel_rfl) (by kernel_rfl) (by kernel_rfl) rfl (fun _ _ _ h => h) (Or.inl ⟨by rfl, ?hy67⟩) (by assumption) ?hr67
                  case hy67 => (intro W9 hW9; obtain ⟨k0, k1, k2, k3, k4, k5, k6, k7⟩ := hW9; first | (go_simp; done) | (go_simp; with_reducible rfl))
                  simp only [Act.put, getElem_toArray, getElem_cons_succ, getElem_cons_zero, setIfInBounds_toArray, set_cons_zero, set_cons_succ]
                  refine goes_take0 (i := 2) (v := ?hv68) rfl (by kernel_rfl) (by kernel_rfl) (by kernel_rfl) rfl (fun _ _ _ h => h) (Or.inl ⟨by rfl, ?hy68⟩) (by assumption) ?hr68
                  case hy68 => (intro W9 hW9; obtain ⟨k0, k1, k2, k3, k4, k5, k6, k7⟩ := hW9; first | (go_simp; done) | (go_simp; with_reducible rfl))
                  simp only [Act.put, getElem_toArray, getElem_cons_succ, getElem_cons_zero, setIfInBounds_toArray, set_cons_zero, set_cons_succ]
                  refine goes_take0 (i := 3) (v := ?hv69) rfl (by kernel_rfl) (by kernel_rfl) (by kernel_rfl) rfl (fun _ _ _ h => h) (Or.inl ⟨by rfl, ?hy69⟩) (by assumption) ?hr69
                  case hy69 => (intro W9 hW9; obtain ⟨k0, k1, k2, k3, k4, k5, k6, k7⟩ := hW9; first | (go_simp; done) | (go_simp; with_reducible rfl))
                  simp only [Act.put, getElem_toArray, getElem_cons_succ, getElem_cons_zero, setIfInBounds_toArray, set_cons_zero, set_cons_succ]
                  refine goes_take0 (i := 4) (v := ?hv70) rfl (by kernel_rfl) (by kernel_rfl) (by kernel_rfl) rfl (fun _ _ _ h => h) (Or.inl ⟨by rfl, ?hy70⟩) (by assumption) ?hr70
                  case hy70 => (intro W9 hW9; obtain ⟨k0, k1, k2, k3, k4, k5, k6, k7⟩ := hW9; first | (go_simp; done) | (go_simp; with_reducible rfl))
                  simp only [Act.put, getElem_toArray, getElem_cons_succ, getElem_cons_zero, setIfInBounds_toArray, set_cons_zero, set_cons_succ]
                  refine goes_take0 (i := 5) (v := ?hv71) rfl (by kernel_rfl) (by kernel_rfl) (by kernel_rfl) rfl (fun _ _ _ h => h) (Or.inl ⟨by rfl, ?hy71⟩) (by assumption) ?hr71
                  case hy71 => (intro W9 hW9; obtain ⟨k0, k1, k2, k3, k4, k5, k6, k7⟩ := hW9; first | (go_simp; done) | (go_simp; with_reducible rfl))
                  simp only [Act.put, getElem_toArray, getElem_cons_succ, getElem_cons_zero, setIfInBounds_toArray, set_cons_zero, set_cons_succ]
                  refine goes_take0 (i := 6) (v := ?hv72) rfl (by kernel_rfl) (by kernel_rfl) (by kernel_rfl) rfl (fun _ _ _ h => h) (Or.inl ⟨by rfl, ?hy72⟩) (by assumption) ?hr72
                  case hy72 => (intro W9 hW9; obtain ⟨k0, k1, k2, k3, k4, k5, k6, k7⟩ := hW9; first | (go_simp; done) | (go_simp; with_reducible rfl))
                  simp only [Act.put, getElem_toArray, getElem_cons_succ, getElem_cons_zero, setIfInBounds_toArray, set_cons_zero, set_cons_succ]
                  refine goes_take0 (i := 7) (v := ?hv73) rfl (by kernel_rfl) (by kernel_rfl) (by kernel_rfl) rfl (fun _ _ _ h => h) (Or.inl ⟨by rfl, ?hy73⟩) (by assumption) ?hr73
                  case hy73 => (intro W9 hW9; obtain ⟨k0, k1, k2, k3, k4, k5, k6, k7⟩ := hW9; first | (go_simp; done) | (go_simp; with_reducible rfl))
                  simp only [Act.put, getElem_toArray, getElem_cons_succ, getElem_cons_zero, setIfInBounds_toArray, set_cons_zero, set_cons_succ]
                  refine goes_take0 (i := 8) (v := ?hv74) rfl (by kernel_rfl) (by kernel_rfl) (by kernel_rfl) rfl (fun _ _ _ h => h) (Or.inl ⟨by rfl, ?hy74⟩) (by assumption) ?hr74
                  case hy74 => (intro W9 hW9; obtain ⟨k0, k1, k2, k3, k4, k5, k6, k7⟩ := hW9; first | (go_simp; done) | (go_simp; with_reducible rfl))
                  simp only [Act.put, getElem_toArray, getElem_cons_succ, getElem_cons_zero, setIfInBounds_toArray, set_cons_zero, set_cons_succ]
                  refine goes_take0 (i := 9) (v := ?hv75) rfl (by kernel_rfl) (by kernel_rfl) (by kernel_rfl) rfl (fun _ _ _ h => h) (Or.inl ⟨by rfl, ?hy75⟩) (by assumption) ?hr75
                  case hy75 => (intro W9 hW9; obtain ⟨k0, k1, k2, k3, k4, k5, k6, k7⟩ := hW9; first | (go_simp; done) | (go_simp; with_reducible rfl))
                  simp only [Act.put, getElem_toArray, getElem_cons_succ, getElem_cons_zero, setIfInBounds_toArray, set_cons_zero, set_cons_succ]
                  refine goes_take0 (i := 10) (v := ?hv76) rfl (by kernel_rfl) (by kernel_rfl) (by kernel_rfl) rfl (fun _ _ _ h => h) (Or.inl ⟨by rfl, ?hy76⟩) (by assumption) ?hr76
                  case hy76 => (intro W9 hW9; obtain ⟨k0, k1, k2, k3, k4, k5, k6, k7⟩ := hW9; first | (go_simp; done) | (go_simp; with_reducible rfl))
                  simp only [Act.put, getElem_toArray, getElem_cons_succ, getElem_cons_zero, setIfInBounds_toArray, set_cons_zero, set_cons_succ]
                  refine goes_take0 (i := 11) (v := ?hv77) rfl (by kernel_rfl) (by kernel_rfl) (by kernel_rfl) rfl (fun _ _ _ h => h) (Or.inl ⟨by rfl, ?hy77⟩) (by assumption) ?hr77
                  case hy77 => (intro W9 hW9; obtain ⟨k0, k1, k2, k3, k4, k5, k6, k7⟩ := hW9; first | (go_simp; done) | (go_simp; with_reducible rfl))
                  simp only [Act.put, getElem_toArray, getElem_cons_succ, getElem_cons_zero, setIfInBounds_toArray, set_cons_zero, set_cons_succ]
                  refine goes_take0 (i := 12) (v := ?hv78) rfl (by kernel_rfl) (by kernel_rfl) (by kernel_rfl) rfl (fun _ _ _ h => h) (Or.inl ⟨by rfl, ?hy78⟩) (by assumption) ?hr78
                  case hy78 => (intro W9 hW9; obtain ⟨k0, k1, k2, k3, k4, k5, k6, k7⟩ := hW9; first | (go_simp; done) | (go_simp; with_reducible rfl))
                  simp only [Act.put, getElem_toArray, getElem_cons_succ, getElem_cons_zero, setIfInBounds_toArray, set_cons_zero, set_cons_succ]
                  refine goes_take0 (i := 13) (v := ?hv79) rfl (by kernel_rfl) (by kernel_rfl) (by kernel_rfl) rfl (fun _ _ _ h => h) (Or.inl ⟨by rfl, ?hy79⟩) (by assumption) ?hr79
                  case hy79 => (intro W9 hW9; obtain ⟨k0, k1, k2, k3, k4, k5, k6, k7⟩ := hW9; first | (go_simp; done) | (go_simp; with_reducible rfl))
                  simp only [Act.put, getElem_toArray, getElem_cons_succ, getElem_cons_zero, setIfInBounds_toArray, set_cons_zero, set_cons_succ]
                  refine goes_take0 (i := 14) (v := ?hv80) rfl (by kernel_rfl) (by kernel_rfl) (by kernel_rfl) rfl (fun _ _ _ h => h) (Or.inl ⟨by rfl, ?hy80⟩) (by assumption) ?hr80
                  case hy80 => (intro W9 hW9; obtain ⟨k0, k1, k2, k3, k4, k5, k6, k7⟩ := hW9; first | (go_simp; done) | (go_simp; with_reducible rfl))
                  simp only [Act.put, getElem_toArray, getElem_cons_succ, getElem_cons_zero, setIfInBounds_toArray, set_cons_zero, set_cons_succ]
                  refine goes_take0 (i := 15) (v := ?hv81) rfl (by kernel_rfl) (by kernel_rfl) (by kernel_rfl) rfl (fun _ _ _ h => h) (Or.inl ⟨by rfl, ?hy81⟩) (by assumption) ?hr81
                  case hy81 => (intro W9 hW9; obtain ⟨k0, k1, k2, k3, k4, k5, k6, k7⟩ := hW9; first | (go_simp; done) | (go_simp; with_reducible rfl))
                  simp only [Act.put, getElem_toArray, getElem_cons_succ, getElem_cons_zero, setIfInBounds_toArray, set_cons_zero, set_cons_succ]
                  refine goes_take0 (i := 16) (v := (.bool true)) rfl (by kernel_rfl) (by kernel_rfl) (by kernel_rfl) rfl (fun _ _ _ h => h) (Or.inl ⟨by rfl, ?hy82⟩) (by assumption) ?hr82
                  case hy82 => (intro W9 hW9; obtain ⟨k0, k1, k2, k3, k4, k5, k6, k7⟩ := hW9; go_simp; exact HEQ.out)
                  simp only [Act.put, getElem_toArray, getElem_cons_succ, getElem_cons_zero, setIfInBounds_toArray, set_cons_zero, set_cons_succ]
                  refine goes_done (by kernel_rfl) ?_ _
                  go_wp2
                  go_ret
                  exact ⟨by rw [HR.out]; rfl, HBJ.out.trans ((Below.refl _ wr).drew.mono HBJ.out.size)⟩
                · have HR := Lib.hid (HJT.out (arc_eq hxy))
                  obtain rfl := arc_eq hxy
                  clear hxy HJN HJT
                  go_wp2
                  refine region_goes 117 17 rfl (fun W => W.cell? ⟨b1, o1 + k * 2 + 1, none⟩ = some (.slice (some ⟨g1, u1, none⟩) l.length ca) ∧ W.cell? ⟨b2, o2 + k * 2 + 1, none⟩ = some (.slice (some ⟨g2, u2, none⟩) r.length cb) ∧ W.cell? ⟨g1, u1 + j * 3, none⟩ = some (.int .u8 x.lo) ∧ W.cell? ⟨g1, u1 + j * 3 + 1, none⟩ = some (.int .u8 x.hi) ∧ W.cell? ⟨g1, u1 + j * 3 + 2, none⟩ = some (.int .i64 x.dest) ∧ W.cell? ⟨g2, u2 + j * 3, none⟩ = some (.int .u8 x.lo) ∧ W.cell? ⟨g2, u2 + j * 3 + 1, none⟩ = some (.int .u8 x.hi) ∧ W.cell? ⟨g2, u2 + j * 3 + 2, none⟩ = some (.int .i64 x.dest)) mixed ⟨e1, f1, x0, x1, x2, y0, y1, y2⟩ (fun hHeld => ?_)
                  refine goes_take0 (i := 0) (v := ?hv83) rfl (by kernel_rfl) (by kernel_rfl) (by kernel_rfl) rfl (fun _ _ _ h => h) (Or.inl ⟨by rfl, ?hy83⟩) (by assumption) ?hr83
                  case hy83 => (intro W9 hW9; obtain ⟨k0, k1, k2, k3, k4, k5, k6, k7⟩ := hW9; first | (go_simp; done) | (go_simp; with_reducible rfl))
                  simp only [Act.put, getElem_toArray, getElem_cons_succ, getElem_cons_zero, setIfInBounds_toArray, set_cons_zero, set_cons_succ]
                  refine goes_take0 (i := 1) (v := ?hv84) rfl (by kernel_rfl) (by kernel_rfl) (by kernel_rfl) rfl (fun _ _ _ h => h) (Or.inl ⟨by rfl, ?hy84⟩) (by assumption) ?hr84
                  case hy84 => (intro W9 hW9; obtain ⟨k0, k1, k2, k3, k4, k5, k6, k7⟩ := hW9; first | (go_simp; done) | (go_simp; with_reducible rfl))
                  simp only [Act.put, getElem_toArray, getElem_cons_succ, getElem_cons_zero, setIfInBounds_toArray, set_cons_zero, set_cons_succ]
                  refine goes_take0 (i := 2) (v := ?hv85) rfl (by kernel_rfl) (by kernel_rfl) (by kernel_rfl) rfl (fun _ _ _ h => h) (Or.inl ⟨by rfl, ?hy85⟩) (by assumption) ?hr85
                  case hy85 => (intro W9 hW9; obtain ⟨k0, k1, k2, k3, k4, k5, k6, k7⟩ := hW9; first | (go_simp; done) | (go_simp; with_reducible rfl))
                  simp only [Act.put, getElem_toArray, getElem_cons_succ, getElem_cons_zero, setIfInBounds_toArray, set_cons_zero, set_cons_succ]
                  refine goes_take0 (i := 3) (v := ?hv86) rfl (by kernel_rfl) (by kernel_rfl) (by kernel_rfl) rfl (fun _ _ _ h => h) (Or.inl ⟨by rfl, ?hy86⟩) (by assumption) ?hr86
                  case hy86 => (intro W9 hW9; obtain ⟨k0, k1, k2, k3, k4, k5, k6, k7⟩ := hW9; first | (go_simp; done) | (go_simp; with_reducible rfl))
                  simp only [Act.put, getElem_toArray, getElem_cons_succ, getElem_cons_zero, setIfInBounds_toArray, set_cons_zero, set_cons_succ]
                  refine goes_take0 (i := 4) (v := ?hv87) rfl (by kernel_rfl) (by kernel_rfl) (by kernel_rfl) rfl (fun _ _ _ h => h) (Or.inl ⟨by rfl, ?hy87⟩) (by assumption) ?hr87
                  case hy87 => (intro W9 hW9; obtain ⟨k0, k1, k2, k3, k4, k5, k6, k7⟩ := hW9; first | (go_simp; done) | (go_simp; with_reducible rfl))
                  simp only [Act.put, getElem_toArray, getElem_cons_succ, getElem_cons_zero, setIfInBounds_toArray, set_cons_zero, set_cons_succ]
                  refine goes_take0 (i := 5) (v := ?hv88) rfl (by kernel_rfl) (by kernel_rfl) (by kernel_rfl) rfl (fun _ _ _ h => h) (Or.inl ⟨by rfl, ?hy88⟩) (by assumption) ?hr88
                  case hy88 => (intro W9 hW9; obtain ⟨k0, k1, k2, k3, k4, k5, k6, k7⟩ := hW9; first | (go_simp; done) | (go_simp; with_reducible rfl))
                  simp only [Act.put, getElem_toArray, getElem_cons_succ, getElem_cons_zero, setIfInBounds_toArray, set_cons_zero, set_cons_succ]
                  refine goes_take0 (i := 6) (v := ?hv89) rfl (by kernel_rfl) (by kernel_rfl) (by kernel_rfl) rfl (fun _ _ _ h => h) (Or.inl ⟨by rfl, ?hy89⟩) (by assumption) ?hr89
                  case hy89 => (intro W9 hW9; obtain ⟨k0, k1, k2, k3, k4, k5, k6, k7⟩ := hW9; first | (go_simp; done) | (go_simp; with_reducible rfl))
                  simp only [Act.put, getElem_toArray, getElem_cons_succ, getElem_cons_zero, setIfInBounds_toArray, set_cons_zero, set_cons_succ]
                  refine goes_take0 (i := 7) (v := ?hv90) rfl (by kernel_rfl) (by kernel_rfl) (by kernel_rfl) rfl (fun _ _ _ h => h) (Or.inl ⟨by rfl, ?hy90⟩) (by assumption) ?hr90
                  case hy90 => (intro W9 hW9; obtain ⟨k0, k1, k2, k3, k4, k5, k6, k7⟩ := hW9; first | (go_simp; done) | (go_simp; with_reducible rfl))
                  simp only [Act.put, getElem_toArray, getElem_cons_succ, getElem_cons_zero, setIfInBounds_toArray, set_cons_zero, set_cons_succ]
                  refine goes_take0 (i := 8) (v := ?hv91) rfl (by kernel_rfl) (by kernel_rfl) (by kernel_rfl) rfl (fun _ _ _ h => h) (Or.inl ⟨by rfl, ?hy91⟩) (by assumption) ?hr91
                  case hy91 => (intro W9 hW9; obtain ⟨k0, k1, k2, k3, k4, k5, k6, k7⟩ := hW9; first | (go_simp; done) | (go_simp; with_reducible rfl))
                  simp only [Act.put, getElem_toArray, getElem_cons_succ, getElem_cons_zero, setIfInBounds_toArray, set_cons_zero, set_cons_succ]
                  refine goes_take0 (i := 9) (v := ?hv92) rfl (by kernel_rfl) (by kernel_rfl) (by kernel_rfl) rfl (fun _ _ _ h => h) (Or.inl ⟨by rfl, ?hy92⟩) (by assumption) ?hr92
                  case hy92 => (intro W9 hW9; obtain ⟨k0, k1, k2, k3, k4, k5, k6, k7⟩ := hW9; first | (go_simp; done) | (go_simp; with_reducible rfl))
                  simp only [Act.put, getElem_toArray, getElem_cons_succ, getElem_cons_zero, setIfInBounds_toArray, set_cons_zero, set_cons_succ]
                  refine goes_take0 (i := 10) (v := ?hv93) rfl (by kernel_rfl) (by kernel_rfl) (by kernel_rfl) rfl (fun _ _ _ h => h) (Or.inl ⟨by rfl, ?hy93⟩) (by assumption) ?hr93
                  case hy93 => (intro W9 hW9; obtain ⟨k0, k1, k2, k3, k4, k5, k6, k7⟩ := hW9; first | (go_simp; done) | (go_simp; with_reducible rfl))
                  simp only [Act.put, getElem_toArray, getElem_cons_succ, getElem_cons_zero, setIfInBounds_toArray, set_cons_zero, set_cons_succ]
                  refine goes_take0 (i := 11) (v := ?hv94) rfl (by kernel_rfl) (by kernel_rfl) (by kernel_rfl) rfl (fun _ _ _ h => h) (Or.inl ⟨by rfl, ?hy94⟩) (by assumption) ?hr94
                  case hy94 => (intro W9 hW9; obtain ⟨k0, k1, k2, k3, k4, k5, k6, k7⟩ := hW9; first | (go_simp; done) | (go_simp; with_reducible rfl))
                  simp only [Act.put, getElem_toArray, getElem_cons_succ, getElem_cons_zero, setIfInBounds_toArray, set_cons_zero, set_cons_succ]
                  refine goes_take0 (i := 12) (v := ?hv95) rfl (by kernel_rfl) (by kernel_rfl) (by kernel_rfl) rfl (fun _ _ _ h => h) (Or.inl ⟨by rfl, ?hy95⟩) (by assumption) ?hr95
                  case hy95 => (intro W9 hW9; obtain ⟨k0, k1, k2, k3, k4, k5, k6, k7⟩ := hW9; first | (go_simp; done) | (go_simp; with_reducible rfl))
                  simp only [Act.put, getElem_toArray, getElem_cons_succ, getElem_cons_zero, setIfInBounds_toArray, set_cons_zero, set_cons_succ]
                  refine goes_take0 (i := 13) (v := ?hv96) rfl (by kernel_rfl) (by kernel_rfl) (by kernel_rfl) rfl (fun _ _ _ h => h) (Or.inl ⟨by rfl, ?hy96⟩) (by assumption) ?hr96
                  case hy96 => (intro W9 hW9; obtain ⟨k0, k1, k2, k3, k4, k5, k6, k7⟩ := hW9; first | (go_simp; done) | (go_simp; with_reducible rfl))
                  simp only [Act.put, getElem_toArray, getElem_cons_succ, getElem_cons_zero, setIfInBounds_toArray, set_cons_zero, set_cons_succ]
                  refine goes_take0 (i := 14) (v := ?hv97) rfl (by kernel_rfl) (by kernel_rfl) (by kernel_rfl) rfl (fun _ _ _ h => h) (Or.inl ⟨by rfl, ?hy97⟩) (by assumption) ?hr97
                  case hy97 => (intro W9 hW9; obtain ⟨k0, k1, k2, k3, k4, k5, k6, k7⟩ := hW9; first | (go_simp; done) | (go_simp; with_reducible rfl))
                  simp only [Act.put, getElem_toArray, getElem_cons_succ, getElem_cons_zero, setIfInBounds_toArray, set_cons_zero, set_cons_succ]
                  refine goes_take0 (i := 15) (v := ?hv98) rfl (by kernel_rfl) (by kernel_rfl) (by kernel_rfl) rfl (fun _ _ _ h => h) (Or.inl ⟨by rfl, ?hy98⟩) (by assumption) ?hr98
                  case hy98 => (intro W9 hW9; obtain ⟨k0, k1, k2, k3, k4, k5, k6, k7⟩ := hW9; first | (go_simp; done) | (go_simp; with_reducible rfl))
                  simp only [Act.put, getElem_toArray, getElem_cons_succ, getElem_cons_zero, setIfInBounds_toArray, set_cons_zero, set_cons_succ]
                  refine goes_take0 (i := 16) (v := (.bool false)) rfl (by kernel_rfl) (by kernel_rfl) (by kernel_rfl) rfl (fun _ _ _ h => h) (Or.inl ⟨by rfl, ?hy99⟩) (by assumption) ?hr99
                  case hy99 => (intro W9 hW9; obtain ⟨k0, k1, k2, k3, k4, k5, k6, k7⟩ := hW9; first | (go_simp; done) | (go_simp; with_reducible rfl))
                  simp only [Act.put, getElem_toArray, getElem_cons_succ, getElem_cons_zero, setIfInBounds_toArray, set_cons_zero, set_cons_succ]
                  refine goes_done (by kernel_rfl) ?_ _
                  go_wp2
                  go_roundw
                  case rel => exact ⟨j + 1, num_succ j, hjl, HR, Lib.hid (HBJ.out.trans ((Below.refl _ wr).drew.mono HBJ.out.size))⟩
                  case measure => simp [intOf]; omega
              · have hdj : decide ((j : Int) < l.length) = false := decide_eq_false (by omega)
                have hdn : decide (j < l.length) = false := decide_eq_false hjl
                have HR := Lib.hid (HEQ1.out (by
                  have h1 := HTJ.out
                  rw [List.take_of_length_le (by omega), List.take_of_length_le (by have := HLR.out; omega)] at h1
                  rw [h1]))
                clear hjl HTJ
                go_wp2
                go_roundw
                case rel => exact ⟨k + 1, num_succ k, hk1, HR, HBJ⟩
                case measure => simp [intOf]; omega
          · have q2 : ((l.length : Int) != r.length) = true := by rw [bne_iff_ne]; omega
            have q3 : (l.length != r.length) = true := by rw [bne_iff_ne]; omega
            have q4 : (l.length == r.length) = false := by rw [beq_eq_false_iff_ne]; omega
            have HR := Lib.hid (HNE.out (fun e => hlr2 (by cases e; rfl)))
            clear hlr2 HNE HEQ1
            go_wp2
            refine region_goes 126 26 rfl (fun W => W.cell? ⟨b1, o1 + k * 2, none⟩ = some (.int .u64 p) ∧ W.cell? ⟨b2, o2 + k * 2, none⟩ = some (.int .u64 p) ∧ W.cell? ⟨b1, o1 + k * 2 + 1, none⟩ = some (.slice aa l.length ca) ∧ W.cell? ⟨b2, o2 + k * 2 + 1, none⟩ = some (.slice ba r.length cb)) mixed ⟨e0, f0, e1, f1⟩ (fun hHeld => ?_)
            refine goes_take0 (i := 0) (v := ?hv27) rfl (by kernel_rfl) (by kernel_rfl) (by kernel_rfl) rfl (fun _ _ _ h => h) (Or.inl ⟨by rfl, ?hy27⟩) (by assumption) ?hr27
            case hy27 => (intro W9 hW9; obtain ⟨k0, k1, k2, k3⟩ := hW9; first | (go_simp; done) | (go_simp; with_reducible rfl))
            simp only [Act.put, getElem_toArray, getElem_cons_succ, getElem_cons_zero, setIfInBounds_toArray, set_cons_zero, set_cons_succ]
            refine goes_take0 (i := 1) (v := ?hv28) rfl (by kernel_rfl) (by kernel_rfl) (by kernel_rfl) rfl (fun _ _ _ h => h) (Or.inl ⟨by rfl, ?hy28⟩) (by assumption) ?hr28
            case hy28 => (intro W9 hW9; obtain ⟨k0, k1, k2, k3⟩ := hW9; first | (go_simp; done) | (go_simp; with_reducible rfl))
            simp only [Act.put, getElem_toArray, getElem_cons_succ, getElem_cons_zero, setIfInBounds_toArray, set_cons_zero, set_cons_succ]
            refine goes_take0 (i := 2) (v := ?hv29) rfl (by kernel_rfl) (by kernel_rfl) (by kernel_rfl) rfl (fun _ _ _ h => h) (Or.inl ⟨by rfl, ?hy29⟩) (by assumption) ?hr29
            case hy29 => (intro W9 hW9; obtain ⟨k0, k1, k2, k3⟩ := hW9; first | (go_simp; done) | (go_simp; with_reducible rfl))
            simp only [Act.put, getElem_toArray, getElem_cons_succ, getElem_cons_zero, setIfInBounds_toArray, set_cons_zero, set_cons_succ]
            refine goes_take0 (i := 3) (v := ?hv30) rfl (by kernel_rfl) (by kernel_rfl) (by kernel_rfl) rfl (fun _ _ _ h => h) (Or.inl ⟨by rfl, ?hy30⟩) (by assumption) ?hr30
            case hy30 => (intro W9 hW9; obtain ⟨k0, k1, k2, k3⟩ := hW9; first | (go_simp; done) | (go_simp; with_reducible rfl))
            simp only [Act.put, getElem_toArray, getElem_cons_succ, getElem_cons_zero, setIfInBounds_toArray, set_cons_zero, set_cons_succ]
            refine goes_take0 (i := 4) (v := ?hv31) rfl (by kernel_rfl) (by kernel_rfl) (by kernel_rfl) rfl (fun _ _ _ h => h) (Or.inl ⟨by rfl, ?hy31⟩) (by assumption) ?hr31
            case hy31 => (intro W9 hW9; obtain ⟨k0, k1, k2, k3⟩ := hW9; first | (go_simp; done) | (go_simp; with_reducible rfl))
            simp only [Act.put, getElem_toArray, getElem_cons_succ, getElem_cons_zero, setIfInBounds_toArray, set_cons_zero, set_cons_succ]
            refine goes_take0 (i := 5) (v := ?hv32) rfl (by kernel_rfl) (by kernel_rfl) (by kernel_rfl) rfl (fun _ _ _ h => h) (Or.inl ⟨by rfl, ?hy32⟩) (by assumption) ?hr32
            case hy32 => (intro W9 hW9; obtain ⟨k0, k1, k2, k3⟩ := hW9; first | (go_simp; done) | (go_simp; with_reducible rfl))
            simp only [Act.put, getElem_toArray, getElem_cons_succ, getElem_cons_zero, setIfInBounds_toArray, set_cons_zero, set_cons_succ]
            refine goes_take0 (i := 6) (v := ?hv33) rfl (by kernel_rfl) (by kernel_rfl) (by kernel_rfl) rfl (fun _ _ _ h => h) (Or.inl ⟨by rfl, ?hy33⟩) (by assumption) ?hr33
            case hy33 => (intro W9 hW9; obtain ⟨k0, k1, k2, k3⟩ := hW9; first | (go_simp; done) | (go_simp; with_reducible rfl))
            simp only [Act.put, getElem_toArray, getElem_cons_succ, getElem_cons_zero, setIfInBounds_toArray, set_cons_zero, set_cons_succ]
            refine goes_take0 (i := 7) (v := ?hv34) rfl (by kernel_rfl) (by kernel_rfl) (by kernel_rfl) rfl (fun _ _ _ h => h) (Or.inl ⟨by rfl, ?hy34⟩) (by assumption) ?hr34
            case hy34 => (intro W9 hW9; obtain ⟨k0, k1, k2, k3⟩ := hW9; first | (go_simp; done) | (go_simp; with_reducible rfl))
            simp only [Act.put, getElem_toArray, getElem_cons_succ, getElem_cons_zero, setIfInBounds_toArray, set_cons_zero, set_cons_succ]
            refine goes_take0 (i := 8) (v := ?hv35) rfl (by kernel_rfl) (by kernel_rfl) (by kernel_rfl) rfl (fun _ _ _ h => h) (Or.inl ⟨by rfl, ?hy35⟩) (by assumption) ?hr35
            case hy35 => (intro W9 hW9; obtain ⟨k0, k1, k2, k3⟩ := hW9; first | (go_simp; done) | (go_simp; with_reducible rfl))
            simp only [Act.put, getElem_toArray, getElem_cons_succ, getElem_cons_zero, setIfInBounds_toArray, set_cons_zero, set_cons_succ]
            refine goes_take0 (i := 9) (v := ?hv36) rfl (by kernel_rfl) (by kernel_rfl) (by kernel_rfl) rfl (fun _ _ _ h => h) (Or.inl ⟨by rfl, ?hy36⟩) (by assumption) ?hr36
            case hy36 => (intro W9 hW9; obtain ⟨k0, k1, k2, k3⟩ := hW9; first | (go_simp; done) | (go_simp; with_reducible rfl))
            simp only [Act.put, getElem_toArray, getElem_cons_succ, getElem_cons_zero, setIfInBounds_toArray, set_cons_zero, set_cons_succ]
            refine goes_take0 (i := 10) (v := (.bool false)) rfl (by kernel_rfl) (by kernel_rfl) (by kernel_rfl) rfl (fun _ _ _ h => h) (Or.inl ⟨by rfl, ?hy37⟩) (by assumption) ?hr37
            case hy37 => (intro W9 hW9; obtain ⟨k0, k1, k2, k3⟩ := hW9; first | (go_simp; done) | (go_simp; with_reducible rfl))
            simp only [Act.put, getElem_toArray, getElem_cons_succ, getElem_cons_zero, setIfInBounds_toArray, set_cons_zero, set_cons_succ]
            refine goes_take0 (i := 11) (v := (.bool false)) rfl (by kernel_rfl) (by kernel_rfl) (by kernel_rfl) rfl (fun _ _ _ h => h) (Or.inl ⟨by rfl, ?hy38⟩) (by assumption) ?hr38
            case hy38 => (intro W9 hW9; obtain ⟨k0, k1, k2, k3⟩ := hW9; first | (go_simp; done) | (go_simp; with_reducible rfl))
            simp only [Act.put, getElem_toArray, getElem_cons_succ, getElem_cons_zero, setIfInBounds_toArray, set_cons_zero, set_cons_succ]
            refine goes_take0 (i := 12) (v := ?hv39) rfl (by kernel_rfl) (by kernel_rfl) (by kernel_rfl) rfl (fun _ _ _ h => h) (Or.inl ⟨by rfl, ?hy39⟩) (by assumption) ?hr39
            case hy39 => (intro W9 hW9; obtain ⟨k0, k1, k2, k3⟩ := hW9; first | (go_simp; done) | (go_simp; with_reducible rfl))
            simp only [Act.put, getElem_toArray, getElem_cons_succ, getElem_cons_zero, setIfInBounds_toArray, set_cons_zero, set_cons_succ]
            refine goes_take0 (i := 13) (v := ?hv40) rfl (by kernel_rfl) (by kernel_rfl) (by kernel_rfl) rfl (fun _ _ _ h => h) (Or.inl ⟨by rfl, ?hy40⟩) (by assumption) ?hr40
            case hy40 => (intro W9 hW9; obtain ⟨k0, k1, k2, k3⟩ := hW9; first | (go_simp; done) | (go_simp; with_reducible rfl))
            simp only [Act.put, getElem_toArray, getElem_cons_succ, getElem_cons_zero, setIfInBounds_toArray, set_cons_zero, set_cons_succ]
            refine goes_take0 (i := 14) (v := ?hv41) rfl (by kernel_rfl) (by kernel_rfl) (by kernel_rfl) rfl (fun _ _ _ h => h) (Or.inl ⟨by rfl, ?hy41⟩) (by assumption) ?hr41
            case hy41 => (intro W9 hW9; obtain ⟨k0, k1, k2, k3⟩ := hW9; first | (go_simp; done) | (go_simp; with_reducible rfl))
            simp only [Act.put, getElem_toArray, getElem_cons_succ, getElem_cons_zero, setIfInBounds_toArray, set_cons_zero, set_cons_succ]
            refine goes_take0 (i := 15) (v := ?hv42) rfl (by kernel_rfl) (by kernel_rfl) (by kernel_rfl) rfl (fun _ _ _ h => h) (Or.inl ⟨by rfl, ?hy42⟩) (by assumption) ?hr42
            case hy42 => (intro W9 hW9; obtain ⟨k0, k1, k2, k3⟩ := hW9; first | (go_simp; done) | (go_simp; with_reducible rfl))
            simp only [Act.put, getElem_toArray, getElem_cons_succ, getElem_cons_zero, setIfInBounds_toArray, set_cons_zero, set_cons_succ]
            refine goes_take0 (i := 16) (v := ?hv43) rfl (by kernel_rfl) (by kernel_rfl) (by kernel_rfl) rfl (fun _ _ _ h => h) (Or.inl ⟨by rfl, ?hy43⟩) (by assumption) ?hr43
            case hy43 => (intro W9 hW9; obtain ⟨k0, k1, k2, k3⟩ := hW9; first | (go_simp; done) | (go_simp; with_reducible rfl))
            simp only [Act.put, getElem_toArray, getElem_cons_succ, getElem_cons_zero, setIfInBounds_toArray, set_cons_zero, set_cons_succ]
            refine goes_take0 (i := 17) (v := ?hv44) rfl (by kernel_rfl) (by kernel_rfl) (by kernel_rfl) rfl (fun _ _ _ h => h) (Or.inl ⟨by rfl, ?hy44⟩) (by assumption) ?hr44
            case hy44 => (intro W9 hW9; obtain ⟨k0, k1, k2, k3⟩ := hW9; first | (go_simp; done) | (go_simp; with_reducible rfl))
            simp only [Act.put, getElem_toArray, getElem_cons_succ, getElem_cons_zero, setIfInBounds_toArray, set_cons_zero, set_cons_succ]
            refine goes_take0 (i := 18) (v := ?hv45) rfl (by kernel_rfl) (by kernel_rfl) (by kernel_rfl) rfl (fun _ _ _ h => h) (Or.inl ⟨by rfl, ?hy45⟩) (by assumption) ?hr45
            case hy45 => (intro W9 hW9; obtain ⟨k0, k1, k2, k3⟩ := hW9; first | (go_simp; done) | (go_simp; with_reducible rfl))
            simp only [Act.put, getElem_toArray, getElem_cons_succ, getElem_cons_zero, setIfInBounds_toArray, set_cons_zero, set_cons_succ]
            refine goes_take0 (i := 19) (v := ?hv46) rfl (by kernel_rfl) (by kernel_rfl) (by kernel_rfl) rfl (fun _ _ _ h => h) (Or.inl ⟨by rfl, ?hy46⟩) (by assumption) ?hr46
            case hy46 => (intro W9 hW9; obtain ⟨k0, k1, k2, k3⟩ := hW9; first | (go_simp; done) | (go_simp; with_reducible rfl))
            simp only [Act.put, getElem_toArray, getElem_cons_succ, getElem_cons_zero, setIfInBounds_toArray, set_cons_zero, set_cons_succ]
            refine goes_take0 (i := 20) (v := ?hv47) rfl (by kernel_rfl) (by kernel_rfl) (by kernel_rfl) rfl (fun _ _ _ h => h) (Or.inl ⟨by rfl, ?hy47⟩) (by assumption) ?hr47
            case hy47 => (intro W9 hW9; obtain ⟨k0, k1, k2, k3⟩ := hW9; first | (go_simp; done) | (go_simp; with_reducible rfl))
            simp only [Act.put, getElem_toArray, getElem_cons_succ, getElem_cons_zero, setIfInBounds_toArray, set_cons_zero, set_cons_succ]
            refine goes_take0 (i := 21) (v := ?hv48) rfl (by kernel_rfl) (by kernel_rfl) (by kernel_rfl) rfl (fun _ _ _ h => h) (Or.inl ⟨by rfl, ?hy48⟩) (by assumption) ?hr48
            case hy48 => (intro W9 hW9; obtain ⟨k0, k1, k2, k3⟩ := hW9; first | (go_simp; done) | (go_simp; with_reducible rfl))
            simp only [Act.put, getElem_toArray, getElem_cons_succ, getElem_cons_zero, setIfInBounds_toArray, set_cons_zero, set_cons_succ]
            refine goes_take0 (i := 22) (v := ?hv49) rfl (by kernel_rfl) (by kernel_rfl) (by kernel_rfl) rfl (fun _ _ _ h => h) (Or.inl ⟨by rfl, ?hy49⟩) (by assumption) ?hr49
            case hy49 => (intro W9 hW9; obtain ⟨k0, k1, k2, k3⟩ := hW9; first | (go_simp; done) | (go_simp; with_reducible rfl))
            simp only [Act.put, getElem_toArray, getElem_cons_succ, getElem_cons_zero, setIfInBounds_toArray, set_cons_zero, set_cons_succ]
            refine goes_take0 (i := 23) (v := ?hv50) rfl (by kernel_rfl) (by kernel_rfl) (by kernel_rfl) rfl (fun _ _ _ h => h) (Or.inl ⟨by rfl, ?hy50⟩) (by assumption) ?hr50
            case hy50 => (intro W9 hW9; obtain ⟨k0, k1, k2, k3⟩ := hW9; first | (go_simp; done) | (go_simp; with_reducible rfl))
            simp only [Act.put, getElem_toArray, getElem_cons_succ, getElem_cons_zero, setIfInBounds_toArray, set_cons_zero, set_cons_succ]
            refine goes_take0 (i := 24) (v := (.bool true)) rfl (by kernel_rfl) (by kernel_rfl) (by kernel_rfl) rfl (fun _ _ _ h => h) (Or.inl ⟨by rfl, ?hy51⟩) (by assumption) ?hr51
            case hy51 => (intro W9 hW9; obtain ⟨k0, k1, k2, k3⟩ := hW9; first | (go_simp; done) | (go_simp; with_reducible rfl))
            simp only [Act.put, getElem_toArray, getElem_cons_succ, getElem_cons_zero, setIfInBounds_toArray, set_cons_zero, set_cons_succ]
            refine goes_take0 (i := 25) (v := (.bool true)) rfl (by kernel_rfl) (by kernel_rfl) (by kernel_rfl) rfl (fun _ _ _ h => h) (Or.inl ⟨by rfl, ?hy52⟩) (by assumption) ?hr52
            case hy52 => (intro W9 hW9; obtain ⟨k0, k1, k2, k3⟩ := hW9; first | (go_simp; done) | (go_simp; with_reducible rfl))
            simp only [Act.put, getElem_toArray, getElem_cons_succ, getElem_cons_zero, setIfInBounds_toArray, set_cons_zero, set_cons_succ]
            refine goes_done (by kernel_rfl) ?_ _
            go_wp2
            go_ret
            exact ⟨by rw [HR.out]; rfl, HBD.out⟩
        · have q1 : ((p : Int) != q) = true := by rw [bne_iff_ne]; omega
          have q3 : (p != q) = true := by rw [bne_iff_ne]; omega
          have q4 : (p == q) = false := by rw [beq_eq_false_iff_ne]; omega
          have HR := Lib.hid (HNE.out (fun e => hpq (by cases e; rfl)))
          clear hpq HNE HEQ1
          go_wp2
          refine region_goes 126 26 rfl (fun W => W.cell? ⟨b1, o1 + k * 2, none⟩ = some (.int .u64 p) ∧ W.cell? ⟨b2, o2 + k * 2, none⟩ = some (.int .u64 q) ∧ W.cell? ⟨b1, o1 + k * 2 + 1, none⟩ = some (.slice aa l.length ca) ∧ W.cell? ⟨b2, o2 + k * 2 + 1, none⟩ = some (.slice ba r.length cb)) mixed ⟨e0, f0, e1, f1⟩ (fun hHeld => ?_)
          refine goes_take0 (i := 0) (v := ?hv53) rfl (by kernel_rfl) (by kernel_rfl) (by kernel_rfl) rfl (fun _ _ _ h => h) (Or.inl ⟨by rfl, ?hy53⟩) (by assumption) ?hr53
          case hy53 => (intro W9 hW9; obtain ⟨k0, k1, k2, k3⟩ := hW9; first | (go_simp; done) | (go_simp; with_reducible rfl))
          simp only [Act.put, getElem_toArray, getElem_cons_succ, getElem_cons_zero, setIfInBounds_toArray, set_cons_zero, set_cons_succ]
          refine goes_take0 (i := 1) (v := ?hv54) rfl (by kernel_rfl) (by kernel_rfl) (by kernel_rfl) rfl (fun _ _ _ h => h) (Or.inl ⟨by rfl, ?hy54⟩) (by assumption) ?hr54
          case hy54 => (intro W9 hW9; obtain ⟨k0, k1, k2, k3⟩ := hW9; first | (go_simp; done) | (go_simp; with_reducible rfl))
          simp only [Act.put, getElem_toArray, getElem_cons_succ, getElem_cons_zero, setIfInBounds_toArray, set_cons_zero, set_cons_succ]
          refine goes_take0 (i := 2) (v := ?hv55) rfl (by kernel_rfl) (by kernel_rfl) (by kernel_rfl) rfl (fun _ _ _ h => h) (Or.inl ⟨by rfl, ?hy55⟩) (by assumption) ?hr55
          case hy55 => (intro W9 hW9; obtain ⟨k0, k1, k2, k3⟩ := hW9; first | (go_simp; done) | (go_simp; with_reducible rfl))
          simp only [Act.put, getElem_toArray, getElem_cons_succ, getElem_cons_zero, setIfInBounds_toArray, set_cons_zero, set_cons_succ]
          refine goes_take0 (i := 3) (v := ?hv56) rfl (by kernel_rfl) (by kernel_rfl) (by kernel_rfl) rfl (fun _ _ _ h => h) (Or.inl ⟨by rfl, ?hy56⟩) (by assumption) ?hr56
          case hy56 => (intro W9 hW9; obtain ⟨k0, k1, k2, k3⟩ := hW9; first | (go_simp; done) | (go_simp; with_reducible rfl))
          simp only [Act.put, getElem_toArray, getElem_cons_succ, getElem_cons_zero, setIfInBounds_toArray, set_cons_zero, set_cons_succ]
          refine goes_take0 (i := 4) (v := ?hv57) rfl (by kernel_rfl) (by kernel_rfl) (by kernel_rfl) rfl (fun _ _ _ h => h) (Or.inl ⟨by rfl, ?hy57⟩) (by assumption) ?hr57
          case hy57 => (intro W9 hW9; obtain ⟨k0, k1, k2, k3⟩ := hW9; first | (go_simp; done) | (go_simp; with_reducible rfl))
          simp only [Act.put, getElem_toArray, getElem_cons_succ, getElem_cons_zero, setIfInBounds_toArray, set_cons_zero, set_cons_succ]
          refine goes_take0 (i := 5) (v := ?hv58) rfl (by kernel_rfl) (by kernel_rfl) (by kernel_rfl) rfl (fun _ _ _ h => h) (Or.inl ⟨by rfl, ?hy58⟩) (by assumption) ?hr58
          case hy58 => (intro W9 hW9; obtain ⟨k0, k1, k2, k3⟩ := hW9; first | (go_simp; done) | (go_simp; with_reducible rfl))
          simp only [Act.put, getElem_toArray, getElem_cons_succ, getElem_cons_zero, setIfInBounds_toArray, set_cons_zero, set_cons_succ]
          refine goes_take0 (i := 6) (v := ?hv59) rfl (by kernel_rfl) (by kernel_rfl) (by kernel_rfl) rfl (fun _ _ _ h => h) (Or.inl ⟨by rfl, ?hy59⟩) (by assumption) ?hr59
          case hy59 => (intro W9 hW9; obtain ⟨k0, k1, k2, k3⟩ := hW9; first | (go_simp; done) | (go_simp; with_reducible rfl))
          simp only [Act.put, getElem_toArray, getElem_cons_succ, getElem_cons_zero, setIfInBounds_toArray, set_cons_zero, set_cons_succ]
          refine goes_take0 (i := 7) (v := ?hv60) rfl (by kernel_rfl) (by kernel_rfl) (by kernel_rfl) rfl (fun _ _ _ h => h) (Or.inl ⟨by rfl, ?hy60⟩) (by assumption) ?hr60
          case hy60 => (intro W9 hW9; obtain ⟨k0, k1, k2, k3⟩ := hW9; first | (go_simp; done) | (go_simp; with_reducible rfl))
          simp only [Act.put, getElem_toArray, getElem_cons_succ, getElem_cons_zero, setIfInBounds_toArray, set_cons_zero, set_cons_succ]
          refine goes_take0 (i := 8) (v := ?hv61) rfl (by kernel_rfl) (by kernel_rfl) (by kernel_rfl) rfl (fun _ _ _ h => h) (Or.inl ⟨by rfl, ?hy61⟩) (by assumption) ?hr61
          case hy61 => (intro W9 hW9; obtain ⟨k0, k1, k2, k3⟩ := hW9; first | (go_simp; done) | (go_simp; with_reducible rfl))
          simp only [Act.put, getElem_toArray, getElem_cons_succ, getElem_cons_zero, setIfInBounds_toArray, set_cons_zero, set_cons_succ]
          refine goes_take0 (i := 9) (v := ?hv62) rfl (by kernel_rfl) (by kernel_rfl) (by kernel_rfl) rfl (fun _ _ _ h => h) (Or.inl ⟨by rfl, ?hy62⟩) (by assumption) ?hr62
          case hy62 => (intro W9 hW9; obtain ⟨k0, k1, k2, k3⟩ := hW9; first | (go_simp; done) | (go_simp; with_reducible rfl))
          simp only [Act.put, getElem_toArray, getElem_cons_succ, getElem_cons_zero, setIfInBounds_toArray, set_cons_zero, set_cons_succ]
          refine goes_take0 (i := 10) (v := (.bool true)) rfl (by kernel_rfl) (by kernel_rfl) (by kernel_rfl) rfl (fun _ _ _ h => h) (Or.inl ⟨by rfl, ?hy63⟩) (by assumption) ?hr63
          case hy63 => (intro W9 hW9; obtain ⟨k0, k1, k2, k3⟩ := hW9; first | (go_simp; done) | (go_simp; with_reducible rfl))
          simp only [Act.put, getElem_toArray, getElem_cons_succ, getElem_cons_zero, setIfInBounds_toArray, set_cons_zero, set_cons_succ]
          refine goes_take0 (i := 11) (v := (.bool true)) rfl (by kernel_rfl) (by kernel_rfl) (by kernel_rfl) rfl (fun _ _ _ h => h) (Or.inl ⟨by rfl, ?hy64⟩) (by assumption) ?hr64
          case hy64 => (intro W9 hW9; obtain ⟨k0, k1, k2, k3⟩ := hW9; first | (go_simp; done) | (go_simp; with_reducible rfl))
          simp only [Act.put, getElem_toArray, getElem_cons_succ, getElem_cons_zero, setIfInBounds_toArray, set_cons_zero, set_cons_succ]
          refine goes_take0 (i := 12) (v := undef) rfl (by kernel_rfl) (by kernel_rfl) (by kernel_rfl) rfl (fun _ _ _ h => h) (Or.inr ⟨by rfl, rfl⟩) (by assumption) ?_
          simp only [Act.put, getElem_toArray, getElem_cons_succ, getElem_cons_zero, setIfInBounds_toArray, set_cons_zero, set_cons_succ]
          refine goes_take0 (i := 13) (v := undef) rfl (by kernel_rfl) (by kernel_rfl) (by kernel_rfl) rfl (fun _ _ _ h => h) (Or.inr ⟨by rfl, rfl⟩) (by assumption) ?_
          simp only [Act.put, getElem_toArray, getElem_cons_succ, getElem_cons_zero, setIfInBounds_toArray, set_cons_zero, set_cons_succ]
          refine goes_take0 (i := 14) (v := undef) rfl (by kernel_rfl) (by kernel_rfl) (by kernel_rfl) rfl (fun _ _ _ h => h) (Or.inr ⟨by rfl, rfl⟩) (by assumption) ?_
          simp only [Act.put, getElem_toArray, getElem_cons_succ, getElem_cons_zero, setIfInBounds_toArray, set_cons_zero, set_cons_succ]
          refine goes_take0 (i := 15) (v := undef) rfl (by kernel_rfl) (by kernel_rfl) (by kernel_rfl) rfl (fun _ _ _ h => h) (Or.inr ⟨by rfl, rfl⟩) (by assumption) ?_
          simp only [Act.put, getElem_toArray, getElem_cons_succ, getElem_cons_zero, setIfInBounds_toArray, set_cons_zero, set_cons_succ]
          refine goes_take0 (i := 16) (v := undef) rfl (by kernel_rfl) (by kernel_rfl) (by kernel_rfl) rfl (fun _ _ _ h => h) (Or.inr ⟨by rfl, rfl⟩) (by assumption) ?_
          simp only [Act.put, getElem_toArray, getElem_cons_succ, getElem_cons_zero, setIfInBounds_toArray, set_cons_zero, set_cons_succ]
          refine goes_take0 (i := 17) (v := undef) rfl (by kernel_rfl) (by kernel_rfl) (by kernel_rfl) rfl (fun _ _ _ h => h) (Or.inr ⟨by rfl, rfl⟩) (by assumption) ?_
          simp only [Act.put, getElem_toArray, getElem_cons_succ, getElem_cons_zero, setIfInBounds_toArray, set_cons_zero, set_cons_succ]
          refine goes_take0 (i := 18) (v := undef) rfl (by kernel_rfl) (by kernel_rfl) (by kernel_rfl) rfl (fun _ _ _ h => h) (Or.inr ⟨by rfl, rfl⟩) (by assumption) ?_
          simp only [Act.put, getElem_toArray, getElem_cons_succ, getElem_cons_zero, setIfInBounds_toArray, set_cons_zero, set_cons_succ]
          refine goes_take0 (i := 19) (v := undef) rfl (by kernel_rfl) (by kernel_rfl) (by kernel_rfl) rfl (fun _ _ _ h => h) (Or.inr ⟨by rfl, rfl⟩) (by assumption) ?_
          simp only [Act.put, getElem_toArray, getElem_cons_succ, getElem_cons_zero, setIfInBounds_toArray, set_cons_zero, set_cons_succ]
          refine goes_take0 (i := 20) (v := undef) rfl (by kernel_rfl) (by kernel_rfl) (by kernel_rfl) rfl (fun _ _ _ h => h) (Or.inr ⟨by rfl, rfl⟩) (by assumption) ?_
          simp only [Act.put, getElem_toArray, getElem_cons_succ, getElem_cons_zero, setIfInBounds_toArray, set_cons_zero, set_cons_succ]
          refine goes_take0 (i := 21) (v := undef) rfl (by kernel_rfl) (by kernel_rfl) (by kernel_rfl) rfl (fun _ _ _ h => h) (Or.inr ⟨by rfl, rfl⟩) (by assumption) ?_
          simp only [Act.put, getElem_toArray, getElem_cons_succ, getElem_cons_zero, setIfInBounds_toArray, set_cons_zero, set_cons_succ]
          refine goes_take0 (i := 22) (v := undef) rfl (by kernel_rfl) (by kernel_rfl) (by kernel_rfl) rfl (fun _ _ _ h => h) (Or.inr ⟨by rfl, rfl⟩) (by assumption) ?_
          simp only [Act.put, getElem_toArray, getElem_cons_succ, getElem_cons_zero, setIfInBounds_toArray, set_cons_zero, set_cons_succ]
          refine goes_take0 (i := 23) (v := undef) rfl (by kernel_rfl) (by kernel_rfl) (by kernel_rfl) rfl (fun _ _ _ h => h) (Or.inr ⟨by rfl, rfl⟩) (by assumption) ?_
          simp only [Act.put, getElem_toArray, getElem_cons_succ, getElem_cons_zero, setIfInBounds_toArray, set_cons_zero, set_cons_succ]
          refine goes_take0 (i := 24) (v := undef) rfl (by kernel_rfl) (by kernel_rfl) (by kernel_rfl) rfl (fun _ _ _ h => h) (Or.inr ⟨by rfl, rfl⟩) (by assumption) ?_
          simp only [Act.put, getElem_toArray, getElem_cons_succ, getElem_cons_zero, setIfInBounds_toArray, set_cons_zero, set_cons_succ]
          refine goes_take0 (i := 25) (v := (.bool true)) rfl (by kernel_rfl) (by kernel_rfl) (by kernel_rfl) rfl (fun _ _ _ h => h) (Or.inl ⟨by rfl, ?hy65⟩) (by assumption) ?hr65
          case hy65 => (intro W9 hW9; obtain ⟨k0, k1, k2, k3⟩ := hW9; first | (go_simp; done) | (go_simp; with_reducible rfl))
          simp only [Act.put, getElem_toArray, getElem_cons_succ, getElem_cons_zero, setIfInBounds_toArray, set_cons_zero, set_cons_succ]
          refine goes_done (by kernel_rfl) ?_ _
          go_wp2
          go_ret
          exact ⟨by rw [HR.out]; rfl, HBD.out⟩
      · have hdd : decide ((k : Int) < m.length) = false := decide_eq_false (by omega)
        have hdn : decide (k < m.length) = false := decide_eq_false hlt
        have HR := Lib.hid (show sameB m n = true from sameB_true.2 (by
          have h1 := HT.out
          rwa [List.take_of_length_le (by omega), List.take_of_length_le (by have := HMN.out; omega)] at h1))
        clear hlt HT
        go_wp2
        go_ret
        exact ⟨by rw [HR.out]; rfl, HB.out⟩
  · have q2 : ((m.length : Int) != n.length) = true := by rw [bne_iff_ne]; omega
    have q3 : (m.length != n.length) = true := by rw [bne_iff_ne]; omega
    have q4 : (m.length == n.length) = false := by rw [beq_eq_false_iff_ne]; omega
    have HR := Lib.hid (sameB_false (fun e : m = n => hmn (by rw [e])))
    clear hmn
    go_enter Try.func7, Try.ntmps7
    go_wp2
    go_ret
    exact ⟨by rw [HR.out]; rfl, Below.refl _ _⟩
end Go.Proofs.Ytamgldhnfcikbaa
