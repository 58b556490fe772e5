/- The contract of the reference's Same over tables. -/
import Derived.Test.YtiikmpgadmmjeaaC2
import Derived.Deep.QuietTactic
import Derived.BigQuiet
set_option maxRecDepth 100000
namespace Go.Proofs.Ytiikmpgadmmjeaa
open Go.RowKit

theorem same_list {α : Type} {l r : List α} (hl : l.length = r.length) (h : ∀ j, j < l.length → l[j]? = r[j]?) : l = r := by
  apply List.ext_getElem? 
  intro j
  by_cases hj : j < l.length
  · exact h j hj
  · rw [List.getElem?_eq_none (by omega), List.getElem?_eq_none (by omega)]
set_option maxHeartbeats 8000000 in
theorem rsame10_any (v u : Value) (T U : List (List Int)) (w : World) (hv : TabAt w v T) (hu : TabAt w u U) (hT : TabOk T) (hU : TabOk U) :
    Calls Try.prog 12 #[v, u] w fun e w' => e = .returned (.bool (decide (T = U))) ∧ ∃ q, w' = w.drewN q := by
  obtain ⟨av, cv, rfl⟩ := hv.len
  obtain ⟨au, cu, rfl⟩ := hu.len
  have HV := Lib.hid hv
  have HU := Lib.hid hu
  have HT := Lib.hid hT.2
  have hTl := hT.1
  have hUl := hU.1
  clear hv hu hT hU
  have HYES := Lib.hid (fun (h : T = U) => decide_eq_true h)
  have HNO := Lib.hid (fun (h : ¬ T = U) => decide_eq_false h)
  obtain ⟨D, hD⟩ : ∃ D, decide (T = U) = D := ⟨_, rfl⟩
  rw [hD] at HYES HNO ⊢
  clear hD
  by_cases hlen : T.length = U.length
  · have d0 : ((T.length : Int) != U.length) = false := by simp [hlen]
    have HL := Lib.hid hlen
    go_enter Try.func12, Try.ntmps12
    rw [hlen]
    go_wp2
    go_loopw [5, 6] (fun z _ wr => ∃ i : Nat, z = .int .i64 i ∧ i ≤ U.length ∧ Hid (∀ j, j < i → T[j]? = U[j]?) ∧ ∃ q, wr = w.drewN q) (fun z _ _ => U.length - (intOf z).toNat)
    case atStart => exact ⟨0, rfl, Nat.zero_le _, Lib.hid (fun _ h => by omega), 0, rfl⟩
    case round =>
      obtain ⟨i, rfl, hi, HF, q, rfl⟩ := hrel
      by_cases hlt : i < U.length
      · have hd : decide ((i : Int) < U.length) = true := decide_eq_true (by omega)
        have hil : (i : Int) < U.length := by omega
        obtain ⟨b1, o1, r1, rfl, e1, hr1⟩ := HV.out.at rfl (show i < T.length by omega)
        obtain ⟨b2, o2, r2, rfl, e2, hr2⟩ := HU.out.at rfl hlt
        have hrl := (HT.out T[i] (List.getElem_mem (by omega))).1
        have HNE := Lib.hid (show T[i] ≠ U[i] → D = false from fun h => HNO.out fun e => h (by subst e; rfl))
        have HEQ := Lib.hid (show T[i] = U[i] → ∀ j, j < i + 1 → T[j]? = U[j]? from fun h j hj => by
          by_cases e : j = i
          · subst e; rw [List.getElem?_eq_getElem (by omega), List.getElem?_eq_getElem hlt, h]
          · exact HF.out j (by omega))
        clear HF
        generalize T[i] = x at *
        generalize U[i] = y at *
        obtain ⟨a3, c3, rfl⟩ := hr1.len
        obtain ⟨a4, c4, rfl⟩ := hr2.len
        have HX := Lib.hid hr1
        have HY := Lib.hid hr2
        clear hr1 hr2
        by_cases hxy : x.length = y.length
        · have d1 : ((x.length : Int) != y.length) = false := by simp [hxy]
          have HXY := Lib.hid hxy
          rw [hxy] at e1 hrl
          go_upto_region 6 with fail
          go_quiet (fail)
          revert nq
          intro n1
          rw [World.drewN_drewN]
          obtain ⟨q2, hq2⟩ : ∃ q2, q + n1 = q2 := ⟨_, rfl⟩
          rw [hq2]
          clear hq2 hxy d1
          have d2 : ((y.length : Int) != y.length) = false := by simp
          go_wp2
          go_loopw [6] (fun z wr => ∃ k : Nat, z = .int .i64 k ∧ k ≤ y.length ∧ Hid (∀ j, j < k → x[j]? = y[j]?) ∧ ∃ q, wr = w.drewN q) (fun z _ => y.length - (intOf z).toNat)
          case atStart => exact ⟨0, rfl, Nat.zero_le _, Lib.hid (fun _ h => by omega), q2, rfl⟩
          case round =>
            obtain ⟨k, rfl, hk, HK, q3, rfl⟩ := hrel
            by_cases hlk : k < y.length
            · have hd2 : decide ((k : Int) < y.length) = true := decide_eq_true (by omega)
              have hkl : (k : Int) < y.length := by omega
              have hkx : k < x.length := by rw [HXY.out]; exact hlk
              obtain ⟨b3, o3, rfl, e3⟩ := HX.out.at rfl hkx
              obtain ⟨b4, o4, rfl, e4⟩ := HY.out.at rfl hlk
              have HN2 := Lib.hid (show x[k] ≠ y[k] → D = false from fun h => HNE.out fun e => h (by subst e; rfl))
              have HE2 := Lib.hid (show x[k] = y[k] → ∀ j, j < k + 1 → x[j]? = y[j]? from fun h j hj => by
                by_cases e : j = k
                · subst e; rw [List.getElem?_eq_getElem hkx, List.getElem?_eq_getElem hlk, h]
                · exact HK.out j (by omega))
              clear HK
              generalize x[k] = p at *
              generalize y[k] = r at *
              by_cases hpr : p = r
              · have d3 : (p != r) = false := by simp [hpr]
                have HE3 := Lib.hid (HE2.out hpr)
                clear hpr
                go_upto_region 11 with fail
                go_quiet (fail)
                revert nq
                intro n4
                rw [World.drewN_drewN]
                obtain ⟨q5, hq5⟩ : ∃ q5, q3 + n4 = q5 := ⟨_, rfl⟩
                rw [hq5]
                clear hq5
                go_wp2
                exact ⟨⟨k + 1, rfl, hlk, HE3, q5, rfl⟩, by simp only [intOf]; omega⟩
              · have d3 : (p != r) = true := by rw [bne_iff_ne]; exact hpr
                have HE3 := Lib.hid (HN2.out hpr)
                clear hpr
                go_upto_region 11 with fail
                go_quiet (fail)
                revert nq
                intro n4
                rw [World.drewN_drewN]
                go_wp2
                go_ret
                exact ⟨by rw [HE3.out]; rfl, _, rfl⟩
            · have hd2 : decide ((k : Int) < y.length) = false := decide_eq_false (by omega)
              have hdn2 : decide (k < y.length) = false := decide_eq_false hlk
              have HE3 := Lib.hid (HEQ.out (same_list HXY.out fun j hj => HK.out j (by have := HXY.out; omega)))
              clear hlk
              go_wp2
              exact ⟨⟨i + 1, rfl, hlt, HE3, q3, rfl⟩, by simp only [intOf]; omega⟩
        · have HE := Lib.hid (HNE.out fun e => hxy (by rw [e]))
          have d1 : ((x.length : Int) != y.length) = true := by rw [bne_iff_ne]; omega
          have d2 : (x.length != y.length) = true := by rw [bne_iff_ne]; omega
          clear hxy
          go_upto_region 6 with fail
          go_quiet (fail)
          revert nq
          intro n1
          rw [World.drewN_drewN]
          go_wp2
          go_ret
          exact ⟨by rw [HE.out]; rfl, _, rfl⟩
      · have hd : decide ((i : Int) < U.length) = false := decide_eq_false (by omega)
        have hdn : decide (i < U.length) = false := decide_eq_false hlt
        have HE := Lib.hid (HYES.out (same_list HL.out fun j hj => HF.out j (by have := HL.out; omega)))
        clear hlt
        go_wp2
        go_ret
        exact ⟨by rw [HE.out]; rfl, q, rfl⟩
  · have d0 : ((T.length : Int) != U.length) = true := by rw [bne_iff_ne]; omega
    have d1 : (T.length != U.length) = true := by rw [bne_iff_ne]; omega
    have HE := Lib.hid (HNO.out fun e => hlen (by rw [e]))
    clear hlen
    go_enter Try.func12, Try.ntmps12
    go_wp2
    go_ret
    exact ⟨by rw [HE.out]; rfl, 0, rfl⟩
end Go.Proofs.Ytiikmpgadmmjeaa
