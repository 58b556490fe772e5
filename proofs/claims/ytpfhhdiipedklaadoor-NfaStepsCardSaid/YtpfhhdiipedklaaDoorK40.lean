/- Texts that a proof rests on: The reference's Close. | The reference's Step. -/
import Derived.Test.YtpfhhdiipedklaaDoorK39
import Derived.Test.YtpfhhdiipedklaaDoorK26
set_option maxRecDepth 100000
namespace Go.Proofs.YtpfhhdiipedklaaDoor
open Go.RowKit

/-- Numbers in a row, each once as it is told: a state that is there. -/
def baseB (L : List Int) (s : Nat) : Bool := decide ((s : Int) ∈ L)
/-- All that is reached, and nothing else, rising. -/
def RClose (cnt : Nat) (E : List (Nat × Nat)) (L : List Int) (N : Nat) (w : World) (e : Ending) (w' : World) : Prop := ∃ v S, e = .returned v ∧ Hid (w'.ownsRow N 3 1 v (placesOf cnt S).length ((placesOf cnt S).map (Value.int .i64))) ∧ Hid (∀ s, s < cnt → (S s = true ↔ Reach cnt E L s)) ∧ Hid (Below N w w')
theorem baseB_take {L : List Int} {i : Nat} (h : i < L.length) (s : Nat) : baseB (L.take (i + 1)) s = (baseB (L.take i) s || decide ((s : Int) = L[i])) := by
  unfold baseB
  rw [List.take_succ_eq_append_getElem h, Bool.eq_iff_iff]
  simp only [List.mem_append, List.mem_singleton, Bool.or_eq_true, decide_eq_true_eq]
set_option linter.unusedSimpArgs false in
set_option maxHeartbeats 8000000 in
theorem rclose_any (cnt : Nat) (E : List (Nat × Nat)) (ve vb v : Value) (L : List Int) (w : World) (hcnt : cnt ≤ 100000) (hE : RowE w ve E) (hle : E.length ≤ 20000) (hEk : ∀ e ∈ E, e.1 < cnt ∧ e.2 < cnt) (hL : L.length < 100000) (hv : IntsAt w v L) :
    Calls Tryd.prog 12 #[.agg #[.int .i64 cnt, ve, vb, .int .i64 0, .int .i64 1], v] w (RClose cnt E L w.heap.size w) := by
  obtain ⟨ae, ce, rfl⟩ := hE.form
  obtain ⟨a, cp, rfl, hlv⟩ := hv
  obtain ⟨N, hN⟩ : ∃ N, w.heap.size = N := ⟨_, rfl⟩
  have hmk := make_bools (c := (cnt : Int)) (n := cnt) rfl hcnt
  have hmax : max (cnt : Int) 0 = cnt := by omega
  have hs1 : (w.alloc (.cells #[.int .i64 cnt, .slice ae E.length ce, vb, .int .i64 0, .int .i64 1] 43)).heap.size = N + 1 := by simp [hN]
  have hb2 : Below N w ((w.alloc (.cells #[.int .i64 cnt, .slice ae E.length ce, vb, .int .i64 0, .int .i64 1] 43)).alloc (.cells (Places cnt fun _ => false) 4)) := by rw [← hN]; exact below2 w _ _
  have hx2 : ((w.alloc (.cells #[.int .i64 cnt, .slice ae E.length ce, vb, .int .i64 0, .int .i64 1] 43)).alloc (.cells (Places cnt fun _ => false) 4)).heap[N]? = some (.cells #[.int .i64 cnt, .slice ae E.length ce, vb, .int .i64 0, .int .i64 1] 43 (0, 0)) := by
    rw [heap_alloc_old _ _ (by simp; omega), ← hN]; exact heap_alloc_new w _
  have hr2 : Blk ((w.alloc (.cells #[.int .i64 cnt, .slice ae E.length ce, vb, .int .i64 0, .int .i64 1] 43)).alloc (.cells (Places cnt fun _ => false) 4)) (N + 1) cnt (baseB (L.take 0)) := by
    have := Blk.new (w.alloc (.cells #[.int .i64 cnt, .slice ae E.length ce, vb, .int .i64 0, .int .i64 1] 43)) cnt (fun _ => false)
    rw [hs1] at this
    exact this.congr fun i _ => by simp [baseB]
  have HB2 := Lib.hid hb2
  have HX2 := Lib.hid hx2
  have HR2 := Lib.hid hr2
  have HE := Lib.hid (show ∀ wr, Below N w wr → RowE wr (.slice ae E.length ce) E from fun wr hb => hE.below (by rw [hN]; exact hb))
  have HLV := Lib.hid (show ∀ wr, Below N w wr → ∀ i (h : i < L.length), ∃ b o, a = some ⟨b, o, none⟩ ∧ wr.cell? ⟨b, o + i, none⟩ = some (.int .i64 L[i]) from fun wr hb i hi => by
    obtain ⟨b, o, e1, e2⟩ := hlv i hi
    exact ⟨b, o, e1, cell_below (by rw [hN]; exact hb) e2⟩)
  have HEK := Lib.hid hEk
  clear hE hlv hb2 hx2 hr2 hEk hs1
  rw [hN]
  go_enter Tryd.func12, Tryd.ntmps12
  go_upto_region 2 with fail
  generalize hw2 : (w.alloc (.cells #[.int .i64 cnt, .slice ae E.length ce, vb, .int .i64 0, .int .i64 1] 43)).alloc (.cells (Places cnt fun _ => false) 4) = w2 at *
  clear hw2 hmk hmax
  go_wp2
  go_loopw [6] (fun x wr => ∃ k : Nat, x = .int .i64 k ∧ k ≤ L.length ∧ Hid (Blk wr (N + 1) cnt (baseB (L.take k))) ∧ Hid (wr.heap[N]? = some (.cells #[.int .i64 cnt, .slice ae E.length ce, vb, .int .i64 0, .int .i64 1] 43 (0, 0))) ∧ Hid (Below N w wr)) (fun x _ => L.length - (intOf x).toNat)
  case atStart => exact ⟨0, rfl, Nat.zero_le _, HR2, HX2, HB2⟩
  case round =>
    clear HR2 HX2 HB2
    obtain ⟨k, rfl, hk, HBL, HX, HBW⟩ := hrel
    by_cases hlt : k < L.length
    · have hdd : decide ((k : Int) < L.length) = true := by simpa using hlt
      obtain ⟨b, ob, rfl, hc2⟩ := HLV.out wr HBW.out k hlt
      have HTK := Lib.hid (baseB_take hlt)
      generalize L[k] = x at *
      by_cases h0 : 0 ≤ x
      · obtain ⟨y, rfl⟩ : ∃ y : Nat, x = y := ⟨x.toNat, by omega⟩
        have h01 : decide ((y : Int) ≥ 0) = true := by simp
        have h02 : decide ((0 : Int) ≤ y) = true := by simp
        by_cases h1 : y < cnt
        · have h11 : decide ((y : Int) < cnt) = true := by simpa using h1
          have cl := HBL.out.cell h1
          have fl : wr.frozen? ⟨N + 1, y, none⟩ = false := HBL.out.frozen
          generalize baseB (L.take k) y = z at cl
          have HNB := Lib.hid (show Blk (wr.setCell ⟨N + 1, y, none⟩ (.bool true)) (N + 1) cnt (baseB (L.take (k + 1))) from HBL.out.set (by rw [HTK.out]; simp) fun i _ hne => by rw [HTK.out]; simp; omega)
          have HNX := Lib.hid (show (wr.setCell ⟨N + 1, y, none⟩ (.bool true)).heap[N]? = some (.cells #[.int .i64 cnt, .slice ae E.length ce, vb, .int .i64 0, .int .i64 1] 43 (0, 0)) from (Below.heap_setCell _ _ _ _ (by show N ≠ N + 1; omega)).trans HX.out)
          have HNW := Lib.hid (HBW.out.setCell (p := ⟨N + 1, y, none⟩) (Nat.le_succ N) (.bool true))
          clear HBL HTK
          go_wp2
          go_roundw
          case rel => exact ⟨k + 1, num_succ k, by omega, HNB, HNX, HNW⟩
          case measure => simp [intOf]; omega
        · have h11 : decide ((y : Int) < cnt) = false := by simpa using h1
          have HNB := Lib.hid (show Blk wr (N + 1) cnt (baseB (L.take (k + 1))) from HBL.out.congr fun i hi => by rw [HTK.out]; simp; omega)
          clear HBL HTK
          go_wp2
          go_roundw
          case rel => exact ⟨k + 1, num_succ k, by omega, HNB, HX, HBW⟩
          case measure => simp [intOf]; omega
      · have h01 : decide ((x : Int) ≥ 0) = false := by simpa using h0
        have h02 : decide ((0 : Int) ≤ x) = false := by simpa using h0
        have HNB := Lib.hid (show Blk wr (N + 1) cnt (baseB (L.take (k + 1))) from HBL.out.congr fun i hi => by rw [HTK.out]; simp; omega)
        clear HBL HTK
        go_wp2
        go_roundw
        case rel => exact ⟨k + 1, num_succ k, by omega, HNB, HX, HBW⟩
        case measure => simp [intOf]; omega
    · have hdd : decide ((k : Int) < L.length) = false := by simpa using hlt
      obtain rfl : k = L.length := by omega
      rw [List.take_length] at HBL
      clear HLV
      go_wp2
      have HSO := Lib.hid (show ∀ s, s < cnt → baseB L s = true → Reach cnt E L s from fun s hs h => by
        have h1 : (s : Int) ∈ L := by simpa [baseB] using h
        have := Reach.base (n := cnt) (E := E) h1 (by omega) (by omega)
        simpa using this)
      have HBA := Lib.hid (show ∀ s, s < cnt → (s : Int) ∈ L → baseB L s = true from fun s _ h => by simpa [baseB] using h)
      generalize baseB L = S0 at *
      go_loopg [7] (unm cnt S0 + 1) (fun gk x wr => ∃ (m : Bool) (S : Nat → Bool), x = .bool m ∧ gk = unm cnt S + (if m then 1 else 0) ∧ Hid (Blk wr (N + 1) cnt S) ∧ Hid (∀ s, s < cnt → S s = true → Reach cnt E L s) ∧ Hid (∀ s, s < cnt → (s : Int) ∈ L → S s = true) ∧ Hid (m = false → ∀ e ∈ E, S e.1 = true → S e.2 = true) ∧ Hid (wr.heap[N]? = some (.cells #[.int .i64 cnt, .slice ae E.length ce, vb, .int .i64 0, .int .i64 1] 43 (0, 0))) ∧ Hid (Below N w wr))
      case atStart => exact ⟨true, S0, rfl, rfl, HBL, HSO, HBA, Lib.hid (fun h => by cases h), HX, HBW⟩
      case round =>
        clear HBL HX HBW HSO HBA hdd hlt hk S0
        obtain ⟨m, S, rfl, hgk, HBL, HSO, HBA, HCL, HX, HBW⟩ := hrel
        cases m
        · have HRZ := Lib.hid (rrising_any cnt (N + 1) S wr hcnt HBL.out)
          have HFIN := Lib.hid (show ∀ s, s < cnt → (S s = true ↔ Reach cnt E L s) from fun s hs => ⟨HSO.out s hs, closed_all HBA.out (HCL.out rfl) s⟩)
          have hNw : N ≤ wr.heap.size := by have := HBL.out.lt; omega
          clear HBL HSO HBA HCL HX
          go_wp2_with (go_at_call 30; refine HRZ.out.mono ?_; rintro e w5 ⟨v5, rfl, hr5, hb5⟩; have HFR := Lib.hid (own_weak hr5.out hNw); have HFB := Lib.hid (HBW.out.trans (hb5.out.mono hNw)); clear hr5 hb5)
          exact bodyPost_ret (v := v5) (by simp [results, Tryd.results12, go_sem, *]) rfl ⟨v5, S, rfl, HFR, HFIN, HFB⟩
        · have HEND := Lib.hid (pass_end cnt S E HEK.out)
          have HS1 := Lib.hid (pass_sound (q := (S, false)) HEK.out HSO.out)
          have HS2 := Lib.hid (show ∀ s, s < cnt → (s : Int) ∈ L → (passF (S, false) E).1 s = true from fun s hs h => pass_base (HBA.out s hs h))
          have HP0 := Lib.hid (show (passF (S, false) (E.take 0)) = (S, false) from rfl)
          clear HSO HBA HCL
          go_wp2
          go_loopw [7, 8] (fun x i wr => ∃ (k : Nat) (m : Bool) (T : Nat → Bool), i = .int .i64 k ∧ x = .bool m ∧ k ≤ E.length ∧ Hid (passF (S, false) (E.take k) = (T, m)) ∧ Hid (Blk wr (N + 1) cnt T) ∧ Hid (wr.heap[N]? = some (.cells #[.int .i64 cnt, .slice ae E.length ce, vb, .int .i64 0, .int .i64 1] 43 (0, 0))) ∧ Hid (Below N w wr)) (fun _ i _ => E.length - (intOf i).toNat)
          case atStart => exact ⟨0, false, S, rfl, rfl, Nat.zero_le _, HP0, HBL, HX, HBW⟩
          case round =>
            clear HBL HX HBW HP0
            obtain ⟨k, m, T, rfl, rfl, hk, HP, HBL, HX, HBW⟩ := hrel
            have c1 : wr.cell? ⟨N, 1, none⟩ = some (.slice ae E.length ce) := (cell_of_row wr N 1 _ _ _ HX.out).trans rfl
            by_cases hlt : k < E.length
            · have hdd : decide ((k : Int) < E.length) = true := by simpa using hlt
              obtain ⟨eb, ec, e, e0, e1⟩ := (HE.out wr HBW.out).at hlt
              cases e
              have hxy := HEK.out E[k] (List.getElem_mem hlt)
              have HTK := Lib.hid (show passF (S, false) (E.take (k + 1)) = pass1 (T, m) E[k] by rw [passF_take hlt, HP.out])
              rw [show E[k] = (E[k].1, E[k].2) from rfl] at HTK
              generalize E[k].1 = x at *
              generalize E[k].2 = y at *
              have hx := hxy.1
              have hy := hxy.2
              have cx := HBL.out.cell hx
              have cy := HBL.out.cell hy
              have fy : wr.frozen? ⟨N + 1, y, none⟩ = false := HBL.out.frozen
              clear hxy HP
              have HNB := Lib.hid (show Blk (wr.setCell ⟨N + 1, y, none⟩ (.bool true)) (N + 1) cnt (fun z => T z || z == y) from HBL.out.set (by simp) fun i _ hne => by simp [hne])
              have HNX := Lib.hid (show (wr.setCell ⟨N + 1, y, none⟩ (.bool true)).heap[N]? = some (.cells #[.int .i64 cnt, .slice (some ⟨eb, 0, none⟩) E.length ce, vb, .int .i64 0, .int .i64 1] 43 (0, 0)) from (Below.heap_setCell _ _ _ _ (by show N ≠ N + 1; omega)).trans HX.out)
              have HNW := Lib.hid (HBW.out.setCell (p := ⟨N + 1, y, none⟩) (Nat.le_succ N) (.bool true))
              have HT1 := Lib.hid (show (T x = true ∧ T y = false) → passF (S, false) (E.take (k + 1)) = (fun z => T z || z == y, true) from fun h => by rw [HTK.out]; unfold pass1; rw [if_pos h])
              have HT0 := Lib.hid (show ¬ (T x = true ∧ T y = false) → passF (S, false) (E.take (k + 1)) = (T, m) from fun h => by rw [HTK.out]; unfold pass1; rw [if_neg h])
              clear HTK
              cases hTx : T x
              · have HU := Lib.hid (HT0.out (by simp [hTx]))
                rw [hTx] at cx
                clear HT0 HT1 hTx cy HNB HNX HNW
                go_wp2
                go_roundw
                case rel => exact ⟨k + 1, m, T, num_succ k, rfl, by omega, HU, HBL, HX, HBW⟩
                case measure => simp [intOf]; omega
              · cases hTy : T y
                · have HU := Lib.hid (HT1.out ⟨hTx, hTy⟩)
                  rw [hTx] at cx
                  rw [hTy] at cy
                  clear HT0 HT1 hTx hTy HBL HX HBW
                  go_wp2
                  go_roundw
                  case rel => exact ⟨k + 1, true, _, num_succ k, rfl, by omega, HU, HNB, HNX, HNW⟩
                  case measure => simp [intOf]; omega
                · have HU := Lib.hid (HT0.out (by simp [hTy]))
                  rw [hTx] at cx
                  rw [hTy] at cy
                  clear HT0 HT1 hTx hTy HNB HNX HNW
                  go_wp2
                  go_roundw
                  case rel => exact ⟨k + 1, m, T, num_succ k, rfl, by omega, HU, HBL, HX, HBW⟩
                  case measure => simp [intOf]; omega
            · have hdd : decide ((k : Int) < E.length) = false := by simpa using hlt
              obtain rfl : k = E.length := by omega
              rw [List.take_length] at HP
              have HEN := Lib.hid (show (m = false → unm cnt T = unm cnt S ∧ ∀ e ∈ E, T e.1 = true → T e.2 = true) ∧ (m = true → unm cnt T < unm cnt S) by
                have := HEND.out
                rw [HP.out] at this
                exact ⟨fun h => by obtain ⟨h1, h2⟩ := this.1 h; simp only at h1; subst h1; exact ⟨rfl, h2⟩, this.2⟩)
              have HQ1 := Lib.hid (show ∀ s, s < cnt → T s = true → Reach cnt E L s by have := HS1.out; rw [HP.out] at this; exact this)
              have HQ2 := Lib.hid (show ∀ s, s < cnt → (s : Int) ∈ L → T s = true by have := HS2.out; rw [HP.out] at this; exact this)
              clear HP HEND HS1 HS2
              go_wp2
              go_roundg (unm cnt T + (if m then 1 else 0))
              case measure =>
                cases m
                · have := (HEN.out.1 rfl).1
                  simp at hgk ⊢; omega
                · have := HEN.out.2 rfl
                  simp at hgk ⊢; omega
              case rel => exact ⟨m, T, rfl, rfl, HBL, HQ1, HQ2, Lib.hid (fun h => (HEN.out.1 h).2), HX, HBW⟩
end Go.Proofs.YtpfhhdiipedklaaDoor
set_option maxRecDepth 100000
namespace Go.Proofs.YtpfhhdiipedklaaDoor
open Go.RowKit

/-- Where the steps by a byte lead, in their order. -/
def stepR (A : List (Nat × Nat × BitVec 256)) (b : Nat) (L : List Int) : List Int := (A.filter fun x => decide ((x.1 : Int) ∈ L) && x.2.2.getLsbD b).map fun x => (x.2.1 : Int)
theorem stepR_yes {A : List (Nat × Nat × BitVec 256)} {b : Nat} {L : List Int} {i : Nat} (h : i < A.length) (h1 : (A[i].1 : Int) ∈ L) (h2 : A[i].2.2.getLsbD b = true) : stepR (A.take (i + 1)) b L = stepR (A.take i) b L ++ [(A[i].2.1 : Int)] := by
  unfold stepR
  rw [List.take_succ_eq_append_getElem h, List.filter_append, List.map_append]
  simp [h1, h2]
theorem stepR_no {A : List (Nat × Nat × BitVec 256)} {b : Nat} {L : List Int} {i : Nat} (h : i < A.length) (h1 : ¬ ((A[i].1 : Int) ∈ L ∧ A[i].2.2.getLsbD b = true)) : stepR (A.take (i + 1)) b L = stepR (A.take i) b L := by
  unfold stepR
  rw [List.take_succ_eq_append_getElem h, List.filter_append, List.map_append]
  have : (decide ((A[i].1 : Int) ∈ L) && A[i].2.2.getLsbD b) = false := by
    rw [Bool.eq_false_iff]; intro h3
    rw [Bool.and_eq_true, decide_eq_true_iff] at h3
    exact h1 h3
  simp [this]
theorem stepR_len (A : List (Nat × Nat × BitVec 256)) (b : Nat) (L : List Int) : (stepR A b L).length ≤ A.length := by
  unfold stepR; rw [List.length_map]; exact List.length_filter_le _ _
theorem stepR_mem (A : List (Nat × Nat × BitVec 256)) (b : Nat) (L : List Int) (x : Int) : x ∈ stepR A b L ↔ x ∈ stepT A b L := by
  rw [mem_stepT]
  unfold stepR tgtB outs
  constructor
  · intro h
    obtain ⟨y, hy, rfl⟩ := List.mem_map.1 h
    obtain ⟨h1, h2⟩ := List.mem_filter.1 hy
    rw [Bool.and_eq_true, decide_eq_true_iff] at h2
    exact ⟨y.1, h2.1, List.mem_map.2 ⟨y, List.mem_filter.2 ⟨List.mem_filter.2 ⟨h1, by simp⟩, h2.2⟩, rfl⟩⟩
  · rintro ⟨k, hk, h⟩
    obtain ⟨y, hy, rfl⟩ := List.mem_map.1 h
    obtain ⟨h1, h2⟩ := List.mem_filter.1 hy
    obtain ⟨h3, h4⟩ := List.mem_filter.1 h1
    have h5 : (y.1 : Int) = k := by simpa using h4
    exact List.mem_map.2 ⟨y, List.mem_filter.2 ⟨h3, by rw [Bool.and_eq_true, decide_eq_true_iff]; exact ⟨h5 ▸ hk, h2⟩⟩, rfl⟩
theorem reach_same {n : Nat} {E : List (Nat × Nat)} {L M : List Int} (h : ∀ x, x ∈ L ↔ x ∈ M) (s : Nat) : Reach n E L s ↔ Reach n E M s := ⟨Reach.mono fun x hx => (h x).1 hx, Reach.mono fun x hx => (h x).2 hx⟩
set_option linter.unusedSimpArgs false in
set_option maxHeartbeats 8000000 in
theorem rstep_any (cnt : Nat) (E : List (Nat × Nat)) (A : List (Nat × Nat × BitVec 256)) (ve vb v : Value) (L : List Int) (b : Nat) (w : World) (hcnt : cnt ≤ 100000) (hE : RowE w ve E) (hB : RowB w vb A) (hle : E.length ≤ 20000) (hla : A.length ≤ 20000) (hEk : ∀ e ∈ E, e.1 < cnt ∧ e.2 < cnt) (hL : L.length < 100000) (hv : IntsAt w v L) (hb : b < 256) :
    Calls Tryd.prog 15 #[.agg #[.int .i64 cnt, ve, vb, .int .i64 0, .int .i64 1], v, .int .u8 b] w (RClose cnt E (stepT A b L) w.heap.size w) := by
  obtain ⟨ae, ce, rfl⟩ := hE.form
  obtain ⟨ab, cb, rfl⟩ := hB.form
  obtain ⟨i0, hi0, hz0, hz1, hz2⟩ := info_parts infoInt
  have HI := Lib.hid (And.intro hi0 (And.intro hz0 (And.intro hz1 hz2)))
  clear hi0 hz0 hz1 hz2
  obtain ⟨N, hN⟩ : ∃ N, w.heap.size = N := ⟨_, rfl⟩
  have HE := Lib.hid (show ∀ wr, Below N w wr → RowE wr (.slice ae E.length ce) E from fun wr hb => hE.below (by rw [hN]; exact hb))
  have HA := Lib.hid (show ∀ wr, Below N w wr → RowB wr (.slice ab A.length cb) A from fun wr hb => hB.below (by rw [hN]; exact hb))
  have HV := Lib.hid (show ∀ wr, Below N w wr → IntsAt wr v L from fun wr hb => hv.below (by rw [hN]; exact hb))
  obtain ⟨av, cv, rfl, _⟩ := hv
  have hb1 : Below N w (w.alloc (.cells #[.int .i64 cnt, .slice ae E.length ce, .slice ab A.length cb, .int .i64 0, .int .i64 1] 43)) := by rw [← hN]; exact new_one w _
  have hx1 : (w.alloc (.cells #[.int .i64 cnt, .slice ae E.length ce, .slice ab A.length cb, .int .i64 0, .int .i64 1] 43)).heap[N]? = some (.cells #[.int .i64 cnt, .slice ae E.length ce, .slice ab A.length cb, .int .i64 0, .int .i64 1] 43 (0, 0)) := by rw [← hN]; exact heap_alloc_new w _
  have hs1 : N + 1 ≤ (w.alloc (.cells #[.int .i64 cnt, .slice ae E.length ce, .slice ab A.length cb, .int .i64 0, .int .i64 1] 43)).heap.size := by simp [hN]
  have HB1 := Lib.hid hb1
  have HX1 := Lib.hid hx1
  have HS1 := Lib.hid hs1
  have HR1 := Lib.hid (show (w.alloc (.cells #[.int .i64 cnt, .slice ae E.length ce, .slice ab A.length cb, .int .i64 0, .int .i64 1] 43)).ownsRow (N + 1) 3 1 (.slice none 0 0) (stepR (A.take 0) b L).length ((stepR (A.take 0) b L).map (Value.int .i64)) from by simpa [stepR] using World.ownsRow_nil _ _ _ _)
  clear hE hB hb1 hx1 hs1
  rw [hN]
  go_enter Tryd.func15, Tryd.ntmps15
  go_upto_region 2 with fail
  generalize w.alloc (.cells #[.int .i64 cnt, .slice ae E.length ce, .slice ab A.length cb, .int .i64 0, .int .i64 1] 43) = w1 at *
  go_wp2
  go_loopw [7, 8] (fun v x wr => ∃ k : Nat, x = .int .i64 k ∧ k ≤ A.length ∧ N + 1 ≤ wr.heap.size ∧ Hid (wr.ownsRow (N + 1) 3 1 v (stepR (A.take k) b L).length ((stepR (A.take k) b L).map (Value.int .i64))) ∧ Hid (wr.heap[N]? = some (.cells #[.int .i64 cnt, .slice ae E.length ce, .slice ab A.length cb, .int .i64 0, .int .i64 1] 43 (0, 0))) ∧ Hid (Below N w wr)) (fun _ x _ => A.length - (intOf x).toNat)
  case atStart => exact ⟨0, rfl, Nat.zero_le _, HS1.out, HR1, HX1, HB1⟩
  case round =>
    clear HS1 HR1 HX1 HB1
    obtain ⟨k, rfl, hk, hSz, HROW, HX, HBW⟩ := hrel
    have c2 : wr.cell? ⟨N, 2, none⟩ = some (.slice ab A.length cb) := (cell_of_row wr N 2 _ _ _ HX.out).trans rfl
    by_cases hlt : k < A.length
    · have hdd : decide ((k : Int) < A.length) = true := by simpa using hlt
      obtain ⟨g, gc, e, ha⟩ := (HA.out wr HBW.out).at hlt
      cases e
      have HYES := Lib.hid (fun h1 h2 => stepR_yes (b := b) (L := L) hlt h1 h2)
      have HNO := Lib.hid (fun h1 => stepR_no (b := b) (L := L) hlt h1)
      have hln := stepR_len (A.take k) b L
      rw [List.length_take] at hln
      have a0 := ha 0 _ (by omega) rfl
      have a1 := ha 1 _ (by omega) rfl
      have a2 := ha 2 _ (by omega) rfl
      have a3 := ha 3 _ (by omega) rfl
      have a4 := ha 4 _ (by omega) rfl
      have a5 := ha 5 _ (by omega) rfl
      clear ha
      generalize A[k].1 = x at *
      generalize A[k].2.1 = y at *
      generalize A[k].2.2 = c at *
      rw [Nat.add_zero] at a0
      have HH := Lib.hid (shas_any (.slice av L.length cv) L x wr (by omega) (HV.out wr HBW.out))
      have HG := Lib.hid (fun wr => rhas_any c b hb wr)
      by_cases hin : (x : Int) ∈ L
      · rw [decide_eq_true hin] at HH
        cases hcb : c.getLsbD b
        · rw [hcb] at HG
          have HU := Lib.hid (HNO.out (by simp [hcb]))
          clear HYES HNO hcb hin
          go_wp2_with (first
            | (go_at_call 32; refine HH.out.mono ?_; rintro e w5 ⟨rfl, rfl⟩)
            | (go_at_call 33; refine (HG.out _).mono ?_; rintro e w6 ⟨rfl, hb6⟩; have HB6 := Lib.hid hb6; clear hb6))
          go_roundw
          case rel => exact ⟨k + 1, num_succ k, by omega, by have := HB6.out.size; omega, by rw [HU.out]; exact Lib.hid (row_keep HROW.out fun g2 cs _ h1 => (HB6.out.block _ (lt_of_block h1)).trans h1), Lib.hid ((HB6.out.block _ (lt_of_block HX.out)).trans HX.out), Lib.hid (HBW.out.trans (HB6.out.mono (by omega)))⟩
          case measure => simp [intOf]; omega
        · rw [hcb] at HG
          have HU := Lib.hid (HYES.out hin hcb)
          clear HYES HNO hcb hin
          obtain ⟨ln, hlne⟩ : ∃ ln, (stepR (A.take k) b L).length = ln := ⟨_, rfl⟩
          rw [hlne] at hln HROW
          go_wp2_with (first
            | (go_at_call 32; refine HH.out.mono ?_; rintro e w5 ⟨rfl, rfl⟩)
            | (go_at_call 33; refine (HG.out _).mono ?_; rintro e w6 ⟨rfl, hb6⟩; have HB6 := Lib.hid hb6; have d2 := cell_below hb6 c2; have d0 := cell_below hb6 a0; have d1 := cell_below hb6 a1; have hS6 := hb6.size; have HR6 := Lib.hid (row_keep (w' := w6) HROW.out fun g2 cs _ h1 => (hb6.block _ (lt_of_block h1)).trans h1); have HBW6 := Lib.hid (HBW.out.trans (hb6.mono (Nat.le_of_succ_le hSz))); have HX6 := Lib.hid ((hb6.block _ (lt_of_block HX.out)).trans HX.out); have HRA := Lib.hid (HR6.out.alloc (.cells #[.int .i64 y] 3)); clear hb6)
            | (at_builtin; refine wpList_append_lies _ rfl _ _ 22 rfl (N + 1) 3 i0 (.int .i64 0) 1 8 Tryd.underlying22 HI.out.1 HI.out.2.1 HI.out.2.2.1 HI.out.2.2.2 rfl (by decide) u7 ln ((stepR (A.take k) b L).map (Value.int .i64)) rfl HRA.out ⟨w6.heap.size, 0, none⟩ 1 1 [.int .i64 y] rfl rfl (one_newsI (heap_alloc_new w6 _)) (by simp [Value.oneCell']) (by omega) (by unfold maxLen; omega) (by omega) (by simp; omega) (w6.heap.size + 1) (by simp) ?_; intro g9 cap2 w8 h2 h3 h4 h5; have h7 := new_one w6 (.cells #[.int .i64 y] 3); have HP1 := Lib.hid ((HBW6.out.trans (h7.mono (by omega))).grown h3 (by have := h7.size; omega) (fun k hk => by have := (HR6.out.lt k hk).1; omega)); have HP2 := Lib.hid (show w8.heap[N]? = _ from (h3.block N (by have := h7.size; omega) (fun e => by have := (HR6.out.lt N e.symm).1; omega)).trans ((h7.block N (by omega)).trans HX6.out)); have hsz8 := h3.size; have hsz7 := h7.size; have HP3 := Lib.hid h2; clear h2 h3 h4 h5 h7))
          go_roundw
          case rel => exact ⟨k + 1, num_succ k, by omega, by omega, by
            rw [HU.out]
            have := HP3.out
            simpa [hlne] using Lib.hid this, HP2, HP1⟩
          case measure => simp [intOf]; omega
      · rw [decide_eq_false hin] at HH
        have HU := Lib.hid (HNO.out (fun h => hin h.1))
        clear HYES HNO hin
        go_wp2_with (go_at_call 32; refine HH.out.mono ?_; rintro e w5 ⟨rfl, rfl⟩)
        go_roundw
        case rel => exact ⟨k + 1, num_succ k, by omega, hSz, by rw [HU.out]; exact HROW, HX, HBW⟩
        case measure => simp [intOf]; omega
    · have hdd : decide ((k : Int) < A.length) = false := by simpa using hlt
      obtain rfl : k = A.length := by omega
      rw [List.take_length] at HROW
      obtain ⟨x0, x1, x2, x3, x4, _⟩ := nfa_cells HX.out
      have hln := stepR_len A b L
      obtain ⟨at7, ct7, rfl⟩ : ∃ a c, u7 = .slice a (stepR A b L).length c := by
        rcases HROW.out.2 with ⟨rfl, h2⟩ | ⟨g, cap, cur, rfl, _⟩
        · exact ⟨none, 0, by rw [h2]⟩
        · exact ⟨_, _, rfl⟩
      have HCL := Lib.hid (rclose_any cnt E (.slice ae E.length ce) (.slice ab A.length cb) (.slice at7 (stepR A b L).length ct7) (stepR A b L) wr hcnt (HE.out wr HBW.out) hle hEk (by omega) (IntsAt.row (n := (stepR A b L).length) HROW.out))
      have HSA := Lib.hid (fun s => reach_same (n := cnt) (E := E) (stepR_mem A b L) s)
      clear HROW HE HA HV hEk
      go_wp2_with (go_at_call 12; refine HCL.out.mono ?_; rintro e w5 ⟨v5, S, rfl, hr5, hS5, hb5⟩; have HFR := Lib.hid (own_weak hr5.out (show N ≤ wr.heap.size by omega)); have HFB := Lib.hid (HBW.out.trans (hb5.out.mono (show N ≤ wr.heap.size by omega))); have HFS := Lib.hid (fun s hs => (hS5.out s hs).trans (HSA.out s)); clear hr5 hb5 hS5)
      exact bodyPost_ret (v := v5) (by simp [results, Tryd.results15, go_sem, *]) rfl ⟨v5, S, rfl, HFR, HFS, HFB⟩
end Go.Proofs.YtpfhhdiipedklaaDoor
