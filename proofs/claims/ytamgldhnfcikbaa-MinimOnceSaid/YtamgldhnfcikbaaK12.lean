/- Texts that a proof rests on: Contract of slices.Reverse on rows of bytes of one's own; such a row as a string. | The contract of minim.text: the bytes by which a pair was come to. | The contract of minim.find, of two machines that are told apart. | The contracts of minim.Differ, Shortest and Alike. | Rows in a row: each a row of one's own; the contract of minim.waysOnward. -/
import Derived.Test.YtamgldhnfcikbaaK11
import Derived.Laws.BytesString
import Derived.Laws.Cells
import Derived.RegionTactic
import Derived.BigRegion
set_option maxRecDepth 100000
namespace Go.Proofs.Ytamgldhnfcikbaa
open Go.RowKit

def u8s (l : List Nat) : List Value := l.map fun x : Nat => Value.int .u8 (x : Int)
theorem u8s_at {l : List Nat} {i : Nat} (h : i < l.length) : (u8s l)[i]? = some (.int .u8 (l[i] : Nat)) := by simp [u8s, h]
theorem u8s_set (l : List Nat) (i x : Nat) : (u8s l).set i (.int .u8 (x : Nat)) = u8s (l.set i x) := by simp [u8s, List.map_set]
theorem u8s_snoc (l : List Nat) (x : Nat) : u8s (l ++ [x]) = u8s l ++ [.int .u8 (x : Nat)] := by simp [u8s]
theorem u8s_len (l : List Nat) : (u8s l).length = l.length := by simp [u8s]
def rv (L : List Nat) : Nat → List Nat
  | 0 => L
  | k + 1 => match (rv L k)[L.length - 1 - k]?, (rv L k)[k]? with
    | some y, some x => ((rv L k).set k y).set (L.length - 1 - k) x
    | _, _ => rv L k
theorem rv_length (L : List Nat) : ∀ k, (rv L k).length = L.length
  | 0 => rfl
  | k + 1 => by
    rw [rv]
    split
    · rw [List.length_set, List.length_set, rv_length L k]
    · exact rv_length L k
theorem rv_step (L : List Nat) (k : Nat) (h1 : k < (rv L k).length) (h2 : L.length - 1 - k < (rv L k).length) : rv L (k + 1) = ((rv L k).set k (rv L k)[L.length - 1 - k]).set (L.length - 1 - k) (rv L k)[k] := by
  rw [rv, List.getElem?_eq_getElem h2, List.getElem?_eq_getElem h1]
theorem rv_at (L : List Nat) : ∀ k, 2 * k ≤ L.length → ∀ m, m < L.length → (rv L k)[m]? = if m < k ∨ L.length - k ≤ m then L[L.length - 1 - m]? else L[m]?
  | 0, _, m, hm => by rw [rv, if_neg (by omega)]
  | k + 1, hk, m, hm => by
    have hl := rv_length L k
    have ih := rv_at L k (by omega)
    by_cases he : L.length - 1 - k = k
    · omega
    · have hlt : k < L.length - 1 - k := by omega
      rw [rv_step L k (by omega) (by omega), List.getElem?_set, List.getElem?_set]
      by_cases h1 : L.length - 1 - k = m
      · rw [if_pos h1, if_pos (by simp; omega), if_pos (by omega)]
        have := ih k (by omega)
        rw [List.getElem?_eq_getElem (by omega), if_neg (by omega)] at this
        rw [this, show L.length - 1 - m = k from by omega]
      · rw [if_neg h1]
        by_cases h2 : k = m
        · rw [if_pos h2, if_pos (by omega), if_pos (by omega)]
          have := ih (L.length - 1 - k) (by omega)
          rw [List.getElem?_eq_getElem (by omega), if_neg (by omega)] at this
          rw [this, h2]
        · rw [if_neg h2, ih m hm]
          by_cases h3 : m < k ∨ L.length - k ≤ m
          · rw [if_pos h3, if_pos (by omega)]
          · rw [if_neg h3, if_neg (by omega)]
theorem rv_end (L : List Nat) (k : Nat) (hk : 2 * k ≤ L.length) (h : L.length ≤ 2 * k + 1) : rv L k = L.reverse := by
  apply List.ext_getElem?
  intro m
  by_cases hm : m < L.length
  · rw [rv_at L k hk m hm, List.getElem?_reverse hm]
    by_cases h1 : m < k ∨ L.length - k ≤ m
    · rw [if_pos h1]
    · rw [if_neg h1, show L.length - 1 - m = m from by omega]
  · rw [List.getElem?_eq_none (by rw [rv_length]; omega), List.getElem?_eq_none (by simp; omega)]
set_option linter.unusedSimpArgs false in
set_option maxHeartbeats 4000000 in
theorem reverse_u8 (base : Nat) (v : Value) (L : List Nat) (w : World) (hl : L.length < 100000) (h : w.ownsRow base 5 1 v L.length (u8s L)) :
    Calls Try.prog 67 #[v] w fun e w' => e = .returned (.tuple #[]) ∧ Hid (w'.ownsRow base 5 1 v L.length (u8s L.reverse)) ∧ Hid (w.grownBy w' v.ownBlock) := by
  obtain ⟨a, cap, rfl⟩ := row_form h
  by_cases h0 : L.length = 0
  · have hL : L = [] := List.eq_nil_of_length_eq_zero h0
    subst hL
    have HR := Lib.hid h
    clear h
    go_enter Try.func67, Try.ntmps67
    go_wp2_with fail
    refine wp_loop_rounds 1 ?_
    rw [rounds_succ]; go_wp2_with fail
    go_end0
    exact ⟨rfl, HR, Lib.hid (gb_refl _ _)⟩
  · rcases h.2 with ⟨_, hz⟩ | ⟨g, cp, _, e, _⟩
    · exact absurd hz h0
    cases e
    have hj0 : ((L.length : Int) - 1) = ((L.length - 1 - 0 : Nat) : Int) := by omega
    have HR := Lib.hid h
    clear h
    go_enter Try.func67, Try.ntmps67
    go_wp2_with fail
    go_loopw [2, 3] (fun i j wr => ∃ k m : Nat, m + k + 1 = L.length ∧ (k ≤ m + 1) ∧ i = .int .i64 k ∧ j = .int .i64 m ∧ Hid (wr.ownsRow base 5 1 (.slice (some ⟨g, 0, none⟩) L.length cap) L.length (u8s (rv L k))) ∧ Hid (w.grownBy wr (some g))) (fun i _ _ => L.length - (intOf i).toNat)
    case atStart => exact ⟨0, L.length - 1, by omega, by omega, rfl, by simp, HR, Lib.hid (gb_refl _ _)⟩
    case round =>
      clear HR
      obtain ⟨k, m, hkm, hkm2, rfl, rfl, HROW, HG⟩ := hrel
      have hrl := rv_length L k
      by_cases hlt : k < m
      · have hm : m = L.length - 1 - k := by omega
        have HST : Hid (rv L (k + 1) = ((rv L k).set k (rv L k)[m]).set m (rv L k)[k]) := by rw [Hid, rv_step L k (by omega) (by omega)]; simp only [← hm]
        have e0 : wr.cell? ⟨g, k, none⟩ = some (.int .u8 ((rv L k)[k] : Nat)) := by rw [HROW.out.cellAt k (by omega), u8s_at (by omega)]
        have e1 : wr.cell? ⟨g, m, none⟩ = some (.int .u8 ((rv L k)[m] : Nat)) := by rw [HROW.out.cellAt m (by omega), u8s_at (by omega)]
        have fr0 : wr.frozen? ⟨g, k, none⟩ = false := HROW.out.frozenAt k
        have fr1 : wr.frozen? ⟨g, m, none⟩ = false := HROW.out.frozenAt m
        generalize (rv L k)[k] = x at *
        generalize (rv L k)[m] = y at *
        have hbk : k < L.length := by omega
        have hbm : m < L.length := by omega
        have hne : k ≠ m := by omega
        have HS1 := Lib.hid ((HROW.out.stored k (.int .u8 (y : Nat))).1)
        have HS2 := Lib.hid ((HS1.out.stored m (.int .u8 (x : Nat))).1)
        rw [u8s_set, u8s_set, ← HST.out] at HS2
        have HG2 := Lib.hid (gb_set (gb_set HG.out k (.int .u8 (y : Nat))) m (.int .u8 (x : Nat)))
        clear hj0 hm HST HS1
        go_wp2_with fail
        go_region
        have HS3 := Lib.hid HS2.out.drew
        have HG3 := Lib.hid (gb_drew HG2.out)
        clear e0 e1 fr0 fr1 HS2 HG2 HROW HG
        revert HS3 HG3
        generalize World.drew _ = w9
        intro HS3 HG3
        go_wp2_with fail
        go_roundw
        case rel => exact ⟨k + 1, m - 1, by omega, by omega, num_succ k, by simp; omega, HS3, HG3⟩
        case measure => simp [intOf]; omega
      · have HE : Hid (rv L k = L.reverse) := rv_end L k (by omega) (by omega)
        go_wp2_with fail
        go_end0
        exact ⟨rfl, by rw [← HE.out]; exact HROW, HG⟩
def strOf (L : List Nat) : ByteArray := ⟨(L.map UInt8.ofNat).toArray⟩
theorem foldl_push_bytes (xs : List Nat) : ∀ r : ByteArray, ((xs.map fun x : Nat => (x : Int)).foldl (fun (r : ByteArray) (n : Int) => r.push (UInt8.ofNat n.toNat)) r) = ⟨r.data ++ (xs.map fun x => UInt8.ofNat x).toArray⟩ := by
  induction xs with
  | nil => intro r; simp
  | cons x xs ih =>
    intro r
    simp only [List.map_cons, List.foldl_cons, Int.toNat_natCast]
    rw [ih]
    congr 1
    simp [ByteArray.push]
theorem conv_u8 {w : World} {B cp : Nat} {L : List Nat} {a : Option Addr} (h : w.ownsRow B 5 1 (.slice a L.length cp) L.length (u8s L)) :
    (convert 67 9 (.slice a L.length cp)).run Try.prog w = .ok (.string (strOf L)) w := by
  rw [run_convert_bytes_string w _ _ _ _ _ cp Try.underlying67 Try.underlying5 Try.underlying9]
  by_cases h0 : L.length = 0
  · have hL : L = [] := List.eq_nil_of_length_eq_zero h0
    subst hL
    cases a <;> rfl
  obtain ⟨g, c, e, hc⟩ := row_cell h (by omega)
  cases e
  have hl := run_loadCells_list (P := Try.prog) (w := w) ⟨g, 0, none⟩ (u8s L) (fun j v hv => by
    have := hc j v hv
    rw [show (⟨g, 0, none⟩ : Addr).add j = ⟨g, j, none⟩ by simp [Addr.add]; intro e; subst e; rfl]; exact this)
  rw [u8s_len] at hl
  have hu : u8s L = (L.map fun x : Nat => (x : Int)).map (Value.int .u8) := by unfold u8s; rw [List.map_map]; rfl
  rw [hu] at hl
  rw [run_bytesToString w ⟨g, 0, none⟩ _ cp _ hl, foldl_push_bytes]
  simp [strOf, ByteArray.empty, ByteArray.emptyWithCapacity]
  rfl
end Go.Proofs.Ytamgldhnfcikbaa
set_option maxRecDepth 100000
namespace Go.Proofs.Ytamgldhnfcikbaa
open List (getElem_toArray getElem_cons_succ getElem_cons_zero setIfInBounds_toArray set_cons_zero set_cons_succ)
open Go.RowKit

theorem Walk.closed {P : List Nat → Nat × Nat} {Q : List (List Nat)} {R : Nat → Nat} {i b : Nat} (h : Walk P Q R i b) : ∀ (k : Nat) (u : List Nat), u ∈ Q → u.take k ∈ Q := by
  suffices H : ∀ (n : Nat) (u : List Nat), u.length = n → u ∈ Q → ∀ k, u.take k ∈ Q from fun k u hu => H _ u rfl hu k
  intro n
  induction n with
  | zero =>
    intro u hu hq k
    rw [List.eq_nil_of_length_eq_zero hu] at hq ⊢
    simpa using hq
  | succ n ih =>
    intro u hu hq k
    by_cases hk : n + 1 ≤ k
    · rw [List.take_of_length_le (by omega)]; exact hq
    · rcases h.below u hq with rfl | ⟨i', b', v, h1, rfl, h3, _⟩
      · simp at hu
      · rw [List.length_append, List.length_singleton] at hu
        rw [List.take_append_of_le_length (by omega)]
        exact ih v (by omega) (List.mem_of_getElem? h1) k
theorem St.inj {m n : List Sta} {w : World} {bw bs g cap bm B : Nat} {va vb vo : Value} {Q : List (List Nat)} {L : List ((Int × Int) × Value)} {A R r : Nat → Nat} {i b : Nat} (h : St m n w bw bs g cap bm B va vb vo Q L A R r i b) {u v : List Nat} (hu : u ∈ Q) (hv : v ∈ Q)
    (e : prT m n u = prT m n v) : u = v := by
  obtain ⟨i1, h1, rfl⟩ := List.mem_iff_getElem.1 hu
  obtain ⟨i2, h2, rfl⟩ := List.mem_iff_getElem.1 hv
  have := (List.getElem_inj (xs := Q.map (prT m n)) (h₀ := by simpa using h1) (h₁ := by simpa using h2) h.nd).1 (by simpa using e)
  subst this; rfl
def lenOf : Value → Nat
  | .slice _ n _ => n
  | _ => 0
theorem infoU8 : (Try.prog.info? 5).map (fun i => (i.zero, i.size, i.bytes)) = some (some (.int .u8 0), 1, 1) := by kernel_rfl
theorem field_by (f0 f1 : Int) (c : Nat) (w : World) : (Instr.field 95 (.agg #[.int .i64 f0, .int .i64 f1, .int .u8 (c : Nat)]) 1).run Try.prog w = .ok (.int .u8 (c : Nat)) w := by kernel_rfl
theorem field_from (f0 f1 : Int) (c : Nat) (w : World) : (Instr.field 95 (.agg #[.int .i64 f0, .int .i64 f1, .int .u8 (c : Nat)]) 0).run Try.prog w = .ok (.agg #[.int .i64 f0, .int .i64 f1]) w := by kernel_rfl
theorem takeL_snoc (u : List Nat) (k : Nat) (h : k < u.length) : u.take (k + 1) = u.take k ++ [u[k]] := by rw [List.take_succ_eq_append_getElem h]
theorem drop_rev (u : List Nat) (k : Nat) (h : k < u.length) : (u.drop k).reverse = (u.drop (k + 1)).reverse ++ [u[k]] := by rw [List.drop_eq_getElem_cons h, List.reverse_cons]
set_option linter.unusedSimpArgs false in
set_option maxHeartbeats 8000000 in
theorem text_any (m n : List Sta) (bw bs g cap bm B i b : Nat) (va vb vo : Value) (Q : List (List Nat)) (L : List ((Int × Int) × Value)) (A R r : Nat → Nat) (u : List Nat) (w : World)
    (hS : Hid (St m n w bw bs g cap bm B va vb vo Q L A R r i b)) (hu : u ∈ Q) (hul : u.length < 100000) :
    Calls Try.prog 57 #[.pointer (some ⟨bw, 0, none⟩), .agg #[.int .i64 (runS m u), .int .i64 (runS n u)]] w fun e w' => e = .returned (.string (strOf u)) ∧ Hid (Below w.heap.size w w') := by
  have mixed : Try.prog.follows .mixedOrders = true := by kernel_rfl
  obtain ⟨i0, hi0, hz0, hz1, hz2⟩ := info_parts infoU8
  have HI := Lib.hid (And.intro hi0 (And.intro hz0 (And.intro hz1 hz2)))
  clear hi0 hz0 hz1 hz2
  obtain ⟨N, hN⟩ : ∃ N, w.heap.size = N := ⟨_, rfl⟩
  have hold := hS.out.ws.old
  have hbig := hS.out.ws.big
  have hq0 := hS.out.wk.head
  have hQ0 : 0 < Q.length := (List.getElem?_eq_some_iff.1 hq0).1
  have hqm : [] ∈ Q := List.mem_of_getElem? hq0
  have hord := hS.out.ws.ord
  obtain ⟨ob, oc, rfl, hoc⟩ := row_cell hord (by rw [List.length_map]; exact hQ0)
  obtain ⟨ln, hln⟩ : ∃ ln, (Q.map (prT m n)).length = ln := ⟨_, rfl⟩
  have hln0 : 0 < ln := by rw [← hln, List.length_map]; exact hQ0
  have hob := (hord.lt ob rfl).2
  have hp0 : (Q.map (prT m n))[0]'(by omega) = prT m n [] := by
    obtain ⟨h1, h2⟩ := List.getElem?_eq_some_iff.1 hq0
    rw [List.getElem_map, h2]
  have hc0 := flatP_at (Q.map (prT m n)) 0 (by omega) 0 (by omega)
  have hc1 := flatP_at (Q.map (prT m n)) 0 (by omega) 1 (by omega)
  rw [hp0] at hc0 hc1
  have hc0 := hoc _ _ hc0
  have hc1 := hoc _ _ hc1
  rw [Nat.zero_mul, Nat.zero_add] at hc0 hc1
  have HC0 := Lib.hid hc0
  have HC1 := Lib.hid hc1
  have HBLK := Lib.hid hS.out.ws.blk
  rw [hln] at HBLK
  clear hc0 hc1 hoc hord hp0
  have HIN := Lib.hid (show ∀ k, u.take k ∈ Q from fun k => hS.out.wk.closed k u hu)
  have HLKK := Lib.hid (show ∀ k (hk : k < u.length) (W : World), W.heap[bm]? = w.heap[bm]? → (Instr.lookup 84 (.map (some bm)) (pv (prT m n (u.take (k + 1)))) false).run Try.prog W = .ok (sv (prT m n (u.take k)) u[k]) W from fun k hk W hW => by
    have h1 := HIN.out (k + 1)
    rw [takeL_snoc u k hk] at h1 ⊢
    exact look_pair (pm_other hS.out.ws.map hW) (by rw [hS.out.keys]; exact hS.out.nd) (hS.out.back _ _ h1))
  have HINJ := Lib.hid (show ∀ k, 0 < k → k ≤ u.length → prT m n (u.take k) ≠ prT m n [] from fun k hk hk2 e => by
    have := congrArg List.length (hS.out.inj (HIN.out k) hqm e)
    rw [List.length_take, List.length_nil] at this; omega)
  obtain ⟨w1, hw1⟩ : ∃ w1, w.alloc (.cells #[.int .i64 (runS m u), .int .i64 (runS n u)] 92) = w1 := ⟨_, rfl⟩
  have hb1 : Below w.heap.size w w1 := by rw [← hw1]; exact new_one w _
  have hs1 : w1.heap.size = N + 1 := by rw [← hw1]; simp [hN]
  have hx1 : w1.heap[N]? = some (.cells #[.int .i64 (prT m n (u.take u.length)).1, .int .i64 (prT m n (u.take u.length)).2] 92 (0, 0)) := by rw [← hw1, List.take_length, ← hN]; exact heap_alloc_new w _
  have HX1 := Lib.hid hx1
  have HB1 : Hid (Below N w w1) := Lib.hid (by rw [← hN]; exact hb1)
  have HR1 : Hid (w1.ownsRow (N + 1) 5 1 (.slice none 0 0) (u.length - u.length) (u8s (u.drop u.length).reverse)) := Lib.hid (by rw [List.drop_length, Nat.sub_self]; exact World.ownsRow_nil _ _ _ _)
  clear hx1 hb1 hS hq0 hqm
  rw [hN]
  go_enter Try.func57, Try.ntmps57
  go_upto_region 1 with fail
  clear hw1
  go_wp2
  go_loopw [5] (fun lv wr => ∃ k : Nat, k ≤ u.length ∧ lenOf lv = u.length - k ∧ N + 1 ≤ wr.heap.size ∧ Hid (wr.heap[N]? = some (.cells #[.int .i64 (prT m n (u.take k)).1, .int .i64 (prT m n (u.take k)).2] 92 (0, 0))) ∧ Hid (wr.ownsRow (N + 1) 5 1 lv (u.length - k) (u8s (u.drop k).reverse)) ∧ Hid (Below N w wr)) (fun lv _ => u.length - lenOf lv)
  case atStart => exact ⟨u.length, Nat.le_refl _, by simp [lenOf], by omega, HX1, HR1, HB1⟩
  case round =>
    clear HX1 HR1 HB1
    obtain ⟨k, hk, hlk, hwr, HX, HR, HB⟩ := hrel
    have d0 : wr.drew.cell? ⟨bw, 2, none⟩ = some (.slice (some ⟨ob, 0, none⟩) ln oc) := (cell_of_row wr bw 2 _ _ _ ((HB.out.block bw (by omega)).trans HBLK.out)).trans rfl
    have d3 : wr.drew.cell? ⟨ob, 0, none⟩ = some (.int .i64 (prT m n []).1) := (World.cell?_of_block (w := w) (w' := wr) (HB.out.block ob (by omega))).trans HC0.out
    have d4 : wr.drew.cell? ⟨ob, 1, none⟩ = some (.int .i64 (prT m n []).2) := (World.cell?_of_block (w := w) (w' := wr) (HB.out.block ob (by omega))).trans HC1.out
    have hx := HX.out
    obtain ⟨q0, hq0⟩ : ∃ q0, (prT m n []).1 = q0 := ⟨_, rfl⟩
    obtain ⟨q1, hq1⟩ : ∃ q1, (prT m n []).2 = q1 := ⟨_, rfl⟩
    rw [hq0] at d3
    rw [hq1] at d4
    by_cases h0 : k = 0
    · subst h0
      rw [List.take_zero, hq0, hq1] at hx
      have d1 : wr.drew.cell? ⟨N, 0, none⟩ = some (.int .i64 q0) := (cell_of_row wr N 0 _ _ _ hx).trans rfl
      have d2 : wr.drew.cell? ⟨N, 1, none⟩ = some (.int .i64 q1) := (cell_of_row wr N 1 _ _ _ hx).trans rfl
      have heq : ∀ W : World, (Op.equalIn 10000 92 (.agg #[.int .i64 q0, .int .i64 q1]) (.agg #[.int .i64 q0, .int .i64 q1])).run Try.prog W = .ok true W := fun W => by
        have := eq_pair q0 q1 q0 q1 W
        simpa [pv] using this
      clear hx hq0 hq1
      rw [List.drop_zero, Nat.sub_zero] at HR
      try go_upto_region 2 with fail
      refine region_goes 108 8 rfl (fun W => W.cell? ⟨bw, 2, none⟩ = some (.slice (some ⟨ob, 0, none⟩) ln oc) ∧ W.cell? ⟨N, 0, none⟩ = some (.int .i64 q0) ∧ W.cell? ⟨N, 1, none⟩ = some (.int .i64 q1) ∧ W.cell? ⟨ob, 0, none⟩ = some (.int .i64 q0) ∧ W.cell? ⟨ob, 1, none⟩ = some (.int .i64 q1)) mixed ⟨d0, d1, d2, d3, d4⟩ (fun hHeld => ?_)
      clear d0 d1 d2 d3 d4
      refine goes_take0 (i := 0) (v := ?hv1) rfl (by kernel_rfl) (by kernel_rfl) (by kernel_rfl) rfl (fun _ _ _ h => h) (Or.inl ⟨by rfl, ?hy1⟩) (by assumption) ?hr1
      case hy1 => (intro W9 hW9; obtain ⟨k0, k1, k2, k3, k4⟩ := hW9; first | (go_simp; done) | (go_simp; with_reducible rfl))
      simp only [Act.put, getElem_toArray, getElem_cons_succ, getElem_cons_zero, setIfInBounds_toArray, set_cons_zero, set_cons_succ]
      refine goes_take0 (i := 1) (v := ?hv2) rfl (by kernel_rfl) (by kernel_rfl) (by kernel_rfl) rfl (fun _ _ _ h => h) (Or.inl ⟨by rfl, ?hy2⟩) (by assumption) ?hr2
      case hy2 => (intro W9 hW9; obtain ⟨k0, k1, k2, k3, k4⟩ := hW9; first | (go_simp; done) | (go_simp; with_reducible rfl))
      simp only [Act.put, getElem_toArray, getElem_cons_succ, getElem_cons_zero, setIfInBounds_toArray, set_cons_zero, set_cons_succ]
      refine goes_take0 (i := 2) (v := ?hv3) rfl (by kernel_rfl) (by kernel_rfl) (by kernel_rfl) rfl (fun _ _ _ h => h) (Or.inl ⟨by rfl, ?hy3⟩) (by assumption) ?hr3
      case hy3 => (intro W9 hW9; obtain ⟨k0, k1, k2, k3, k4⟩ := hW9; first | (go_simp; done) | (go_simp; with_reducible rfl))
      simp only [Act.put, getElem_toArray, getElem_cons_succ, getElem_cons_zero, setIfInBounds_toArray, set_cons_zero, set_cons_succ]
      refine goes_take0 (i := 3) (v := ?hv4) rfl (by kernel_rfl) (by kernel_rfl) (by kernel_rfl) rfl (fun _ _ _ h => h) (Or.inl ⟨by rfl, ?hy4⟩) (by assumption) ?hr4
      case hy4 => (intro W9 hW9; obtain ⟨k0, k1, k2, k3, k4⟩ := hW9; first | (go_simp; done) | (go_simp; with_reducible rfl))
      simp only [Act.put, getElem_toArray, getElem_cons_succ, getElem_cons_zero, setIfInBounds_toArray, set_cons_zero, set_cons_succ]
      refine goes_take0 (i := 4) (v := ?hv5) rfl (by kernel_rfl) (by kernel_rfl) (by kernel_rfl) rfl (fun _ _ _ h => h) (Or.inl ⟨by rfl, ?hy5⟩) (by assumption) ?hr5
      case hy5 => (intro W9 hW9; obtain ⟨k0, k1, k2, k3, k4⟩ := hW9; first | (go_simp; done) | (go_simp; with_reducible rfl))
      simp only [Act.put, getElem_toArray, getElem_cons_succ, getElem_cons_zero, setIfInBounds_toArray, set_cons_zero, set_cons_succ]
      refine goes_take0 (i := 5) (v := ?hv6) rfl (by kernel_rfl) (by kernel_rfl) (by kernel_rfl) rfl (fun _ _ _ h => h) (Or.inl ⟨by rfl, ?hy6⟩) (by assumption) ?hr6
      case hy6 => (intro W9 hW9; obtain ⟨k0, k1, k2, k3, k4⟩ := hW9; first | (go_simp; done) | (go_simp; with_reducible rfl))
      simp only [Act.put, getElem_toArray, getElem_cons_succ, getElem_cons_zero, setIfInBounds_toArray, set_cons_zero, set_cons_succ]
      refine goes_take0 (i := 6) (v := ?hv7) rfl (by kernel_rfl) (by kernel_rfl) (by kernel_rfl) rfl (fun _ _ _ h => h) (Or.inl ⟨by rfl, ?hy7⟩) (by assumption) ?hr7
      case hy7 => (intro W9 hW9; obtain ⟨k0, k1, k2, k3, k4⟩ := hW9; first | (go_simp; done) | (go_simp; with_reducible rfl))
      simp only [Act.put, getElem_toArray, getElem_cons_succ, getElem_cons_zero, setIfInBounds_toArray, set_cons_zero, set_cons_succ]
      refine goes_take0 (i := 7) (v := ?hv8) rfl (by kernel_rfl) (by kernel_rfl) (by kernel_rfl) rfl (fun _ _ _ h => h) (Or.inl ⟨by rfl, ?hy8⟩) (by assumption) ?hr8
      case hy8 => (intro W9 hW9; obtain ⟨k0, k1, k2, k3, k4⟩ := hW9; first | (go_simp; done) | (go_simp; with_reducible rfl))
      simp only [Act.put, getElem_toArray, getElem_cons_succ, getElem_cons_zero, setIfInBounds_toArray, set_cons_zero, set_cons_succ]
      refine goes_done (by kernel_rfl) ?_ _
      obtain ⟨a5, cp5, rfl⟩ := row_form HR.out
      have HRV := Lib.hid (reverse_u8 (N + 1) _ u.reverse wr.drew (by rw [List.length_reverse]; exact hul) (by rw [List.length_reverse]; exact HR.out.drew))
      rw [List.length_reverse, List.reverse_reverse] at HRV
      have HBD : Hid (Below N w wr.drew) := Lib.hid (HB.out.trans ((Below.refl wr.heap.size wr).drew.mono (by omega)))
      have hown : ∀ q, (Value.slice a5 u.length cp5).ownBlock = some q → N ≤ q := fun q e => by have := (HR.out.lt q e).1; omega
      have HOWN := Lib.hid hown
      clear hown HR
      go_wp2_with (go_at_call 67; refine HRV.out.mono ?_; rintro e w5 ⟨rfl, hr5, hg5⟩; have hcv := conv_u8 hr5.out; have HB5 : Hid (Below N w w5) := Lib.hid (HBD.out.grown hg5.out (by show N ≤ wr.heap.size; omega) HOWN.out); clear hr5 hg5)
      go_ret
      exact ⟨rfl, HB5⟩
    · obtain ⟨j, rfl⟩ : ∃ j, k = j + 1 := ⟨k - 1, by omega⟩
      have hj : j < u.length := by omega
      obtain ⟨l5, hl5⟩ : ∃ l5, u.length - (j + 1) = l5 := ⟨_, rfl⟩
      rw [hl5] at HR
      obtain ⟨a5, cp5, rfl⟩ := row_form HR.out
      have hne := HINJ.out (j + 1) (by omega) hk
      have HLK := Lib.hid (HLKK.out j hj)
      obtain ⟨p0, hp0⟩ : ∃ p0, (prT m n (u.take (j + 1))).1 = p0 := ⟨_, rfl⟩
      obtain ⟨p1, hp1⟩ : ∃ p1, (prT m n (u.take (j + 1))).2 = p1 := ⟨_, rfl⟩
      obtain ⟨f0, hf0⟩ : ∃ f0, (prT m n (u.take j)).1 = f0 := ⟨_, rfl⟩
      obtain ⟨f1, hf1⟩ : ∃ f1, (prT m n (u.take j)).2 = f1 := ⟨_, rfl⟩
      rw [hp0, hp1] at hx
      have d1 : wr.drew.cell? ⟨N, 0, none⟩ = some (.int .i64 p0) := (cell_of_row wr N 0 _ _ _ hx).trans rfl
      have d2 : wr.drew.cell? ⟨N, 1, none⟩ = some (.int .i64 p1) := (cell_of_row wr N 1 _ _ _ hx).trans rfl
      have heq : ∀ W : World, (Op.equalIn 10000 92 (.agg #[.int .i64 p0, .int .i64 p1]) (.agg #[.int .i64 q0, .int .i64 q1])).run Try.prog W = .ok false W := fun W => by
        have := eq_pair p0 p1 q0 q1 W
        rw [show (p0 == q0 && p1 == q1) = false from by
          rw [Bool.eq_false_iff]
          intro h
          simp only [Bool.and_eq_true, beq_iff_eq] at h
          exact hne (Prod.ext (by rw [hp0, hq0]; exact h.1) (by rw [hp1, hq1]; exact h.2))] at this
        simpa [pv] using this
      unfold pv sv at HLK
      rw [hp0, hp1, hf0, hf1] at HLK
      have HF01 := Lib.hid (And.intro hf0 hf1)
      have HP01 := Lib.hid (And.intro hp0 hp1)
      clear hx hq0 hq1 hp0 hp1 hne hf0 hf1
      try go_upto_region 2 with fail
      refine region_goes 108 8 rfl (fun W => W.cell? ⟨bw, 2, none⟩ = some (.slice (some ⟨ob, 0, none⟩) ln oc) ∧ W.cell? ⟨N, 0, none⟩ = some (.int .i64 p0) ∧ W.cell? ⟨N, 1, none⟩ = some (.int .i64 p1) ∧ W.cell? ⟨ob, 0, none⟩ = some (.int .i64 q0) ∧ W.cell? ⟨ob, 1, none⟩ = some (.int .i64 q1)) mixed ⟨d0, d1, d2, d3, d4⟩ (fun hHeld => ?_)
      clear d0 d1 d2 d3 d4
      refine goes_take0 (i := 0) (v := ?hv9) rfl (by kernel_rfl) (by kernel_rfl) (by kernel_rfl) rfl (fun _ _ _ h => h) (Or.inl ⟨by rfl, ?hy9⟩) (by assumption) ?hr9
      case hy9 => (intro W9 hW9; obtain ⟨k0, k1, k2, k3, k4⟩ := hW9; first | (go_simp; done) | (go_simp; with_reducible rfl))
      simp only [Act.put, getElem_toArray, getElem_cons_succ, getElem_cons_zero, setIfInBounds_toArray, set_cons_zero, set_cons_succ]
      refine goes_take0 (i := 1) (v := ?hv10) rfl (by kernel_rfl) (by kernel_rfl) (by kernel_rfl) rfl (fun _ _ _ h => h) (Or.inl ⟨by rfl, ?hy10⟩) (by assumption) ?hr10
      case hy10 => (intro W9 hW9; obtain ⟨k0, k1, k2, k3, k4⟩ := hW9; first | (go_simp; done) | (go_simp; with_reducible rfl))
      simp only [Act.put, getElem_toArray, getElem_cons_succ, getElem_cons_zero, setIfInBounds_toArray, set_cons_zero, set_cons_succ]
      refine goes_take0 (i := 2) (v := ?hv11) rfl (by kernel_rfl) (by kernel_rfl) (by kernel_rfl) rfl (fun _ _ _ h => h) (Or.inl ⟨by rfl, ?hy11⟩) (by assumption) ?hr11
      case hy11 => (intro W9 hW9; obtain ⟨k0, k1, k2, k3, k4⟩ := hW9; first | (go_simp; done) | (go_simp; with_reducible rfl))
      simp only [Act.put, getElem_toArray, getElem_cons_succ, getElem_cons_zero, setIfInBounds_toArray, set_cons_zero, set_cons_succ]
      refine goes_take0 (i := 3) (v := ?hv12) rfl (by kernel_rfl) (by kernel_rfl) (by kernel_rfl) rfl (fun _ _ _ h => h) (Or.inl ⟨by rfl, ?hy12⟩) (by assumption) ?hr12
      case hy12 => (intro W9 hW9; obtain ⟨k0, k1, k2, k3, k4⟩ := hW9; first | (go_simp; done) | (go_simp; with_reducible rfl))
      simp only [Act.put, getElem_toArray, getElem_cons_succ, getElem_cons_zero, setIfInBounds_toArray, set_cons_zero, set_cons_succ]
      refine goes_take0 (i := 4) (v := ?hv13) rfl (by kernel_rfl) (by kernel_rfl) (by kernel_rfl) rfl (fun _ _ _ h => h) (Or.inl ⟨by rfl, ?hy13⟩) (by assumption) ?hr13
      case hy13 => (intro W9 hW9; obtain ⟨k0, k1, k2, k3, k4⟩ := hW9; first | (go_simp; done) | (go_simp; with_reducible rfl))
      simp only [Act.put, getElem_toArray, getElem_cons_succ, getElem_cons_zero, setIfInBounds_toArray, set_cons_zero, set_cons_succ]
      refine goes_take0 (i := 5) (v := ?hv14) rfl (by kernel_rfl) (by kernel_rfl) (by kernel_rfl) rfl (fun _ _ _ h => h) (Or.inl ⟨by rfl, ?hy14⟩) (by assumption) ?hr14
      case hy14 => (intro W9 hW9; obtain ⟨k0, k1, k2, k3, k4⟩ := hW9; first | (go_simp; done) | (go_simp; with_reducible rfl))
      simp only [Act.put, getElem_toArray, getElem_cons_succ, getElem_cons_zero, setIfInBounds_toArray, set_cons_zero, set_cons_succ]
      refine goes_take0 (i := 6) (v := ?hv15) rfl (by kernel_rfl) (by kernel_rfl) (by kernel_rfl) rfl (fun _ _ _ h => h) (Or.inl ⟨by rfl, ?hy15⟩) (by assumption) ?hr15
      case hy15 => (intro W9 hW9; obtain ⟨k0, k1, k2, k3, k4⟩ := hW9; first | (go_simp; done) | (go_simp; with_reducible rfl))
      simp only [Act.put, getElem_toArray, getElem_cons_succ, getElem_cons_zero, setIfInBounds_toArray, set_cons_zero, set_cons_succ]
      refine goes_take0 (i := 7) (v := ?hv16) rfl (by kernel_rfl) (by kernel_rfl) (by kernel_rfl) rfl (fun _ _ _ h => h) (Or.inl ⟨by rfl, ?hy16⟩) (by assumption) ?hr16
      case hy16 => (intro W9 hW9; obtain ⟨k0, k1, k2, k3, k4⟩ := hW9; first | (go_simp; done) | (go_simp; with_reducible rfl))
      simp only [Act.put, getElem_toArray, getElem_cons_succ, getElem_cons_zero, setIfInBounds_toArray, set_cons_zero, set_cons_succ]
      refine goes_done (by kernel_rfl) ?_ _
      have HDR := Lib.hid (drop_rev u j hj)
      have hjb : (u[j] : Nat) = u[j] := rfl
      generalize u[j] = c at *
      have fa := field_by f0 f1 c
      have fb := field_from f0 f1 c
      have HBD : Hid (Below N w wr.drew) := Lib.hid (HB.out.trans ((Below.refl wr.heap.size wr).drew.mono (by omega)))
      have HRD := Lib.hid HR.out.drew
      have hwr3 : N + 1 ≤ wr.drew.heap.size := hwr
      have hxd : wr.drew.heap[N]? = some (.cells #[.int .i64 p0, .int .i64 p1] 92 (0, 0)) := by rw [← HP01.out.1, ← HP01.out.2]; exact HX.out
      obtain ⟨w3, hw3⟩ : ∃ w3, wr.drew = w3 := ⟨_, rfl⟩
      rw [hw3] at HBD HRD hwr3 hxd
      rw [hw3]
      clear hw3 HR HB HX hwr
      have HX3 := Lib.hid hxd
      have d0 : w3.drew.cell? ⟨bw, 3, none⟩ = some (.map (some bm)) := (cell_of_row w3 bw 3 _ _ _ ((HBD.out.block bw (by omega)).trans HBLK.out)).trans rfl
      have d1 : w3.drew.cell? ⟨N, 0, none⟩ = some (.int .i64 p0) := (cell_of_row w3 N 0 _ _ _ hxd).trans rfl
      have d2 : w3.drew.cell? ⟨N, 1, none⟩ = some (.int .i64 p1) := (cell_of_row w3 N 1 _ _ _ hxd).trans rfl
      have d3 : w3.drew.heap[bm]? = w.heap[bm]? := HBD.out.block bm (by omega)
      clear hxd
      clear hHeld
      try go_upto_region 3 with fail
      refine region_goes 10 11 rfl (fun W => W.cell? ⟨bw, 3, none⟩ = some (.map (some bm)) ∧ W.cell? ⟨N, 0, none⟩ = some (.int .i64 p0) ∧ W.cell? ⟨N, 1, none⟩ = some (.int .i64 p1) ∧ W.heap[bm]? = w.heap[bm]?) mixed ⟨d0, d1, d2, d3⟩ (fun hHeld => ?_)
      clear d0 d1 d2 d3
      refine goes_take (i := 0) (v := ?gv1) rfl (by kernel_rfl) (by kernel_rfl) (by kernel_rfl) (by kernel_rfl) (fun _ _ _ h => h) (Or.inl ⟨by rfl, ?gy1⟩) (by assumption) ?gr1
      case gy1 => (intro W9 hW9; obtain ⟨k0, k1, k2, k3⟩ := hW9; first | (go_simp; done) | (go_simp; with_reducible rfl))
      simp only [Act.put, getElem_toArray, getElem_cons_succ, getElem_cons_zero, setIfInBounds_toArray, set_cons_zero, set_cons_succ]
      refine goes_take (i := 1) (v := ?gv2) rfl (by kernel_rfl) (by kernel_rfl) (by kernel_rfl) (by kernel_rfl) (fun _ _ _ h => h) (Or.inl ⟨by rfl, ?gy2⟩) (by assumption) ?gr2
      case gy2 => (intro W9 hW9; obtain ⟨k0, k1, k2, k3⟩ := hW9; first | (go_simp; done) | (go_simp; with_reducible rfl))
      simp only [Act.put, getElem_toArray, getElem_cons_succ, getElem_cons_zero, setIfInBounds_toArray, set_cons_zero, set_cons_succ]
      refine goes_take (i := 2) (v := ?gv3) rfl (by kernel_rfl) (by kernel_rfl) (by kernel_rfl) (by kernel_rfl) (fun _ _ _ h => h) (Or.inl ⟨by rfl, ?gy3⟩) (by assumption) ?gr3
      case gy3 => (intro W9 hW9; obtain ⟨k0, k1, k2, k3⟩ := hW9; first | (go_simp; done) | (go_simp; with_reducible rfl))
      simp only [Act.put, getElem_toArray, getElem_cons_succ, getElem_cons_zero, setIfInBounds_toArray, set_cons_zero, set_cons_succ]
      refine goes_take (i := 3) (v := ?gv4) rfl (by kernel_rfl) (by kernel_rfl) (by kernel_rfl) (by kernel_rfl) (fun _ _ _ h => h) (Or.inl ⟨by rfl, ?gy4⟩) (by assumption) ?gr4
      case gy4 => (intro W9 hW9; obtain ⟨k0, k1, k2, k3⟩ := hW9; first | (go_simp; done) | (go_simp; with_reducible rfl))
      simp only [Act.put, getElem_toArray, getElem_cons_succ, getElem_cons_zero, setIfInBounds_toArray, set_cons_zero, set_cons_succ]
      refine goes_take (i := 4) (v := ?gv5) rfl (by kernel_rfl) (by kernel_rfl) (by kernel_rfl) (by kernel_rfl) (fun _ _ _ h => h) (Or.inl ⟨by rfl, ?gy5⟩) (by assumption) ?gr5
      case gy5 => (intro W9 hW9; obtain ⟨k0, k1, k2, k3⟩ := hW9; first | (go_simp; done) | (go_simp; with_reducible rfl))
      simp only [Act.put, getElem_toArray, getElem_cons_succ, getElem_cons_zero, setIfInBounds_toArray, set_cons_zero, set_cons_succ]
      refine goes_take (i := 5) (v := ?gv6) rfl (by kernel_rfl) (by kernel_rfl) (by kernel_rfl) (by kernel_rfl) (fun _ _ _ h => h) (Or.inl ⟨by rfl, ?gy6⟩) (by assumption) ?gr6
      case gy6 => (intro W9 hW9; obtain ⟨k0, k1, k2, k3⟩ := hW9; first | (go_simp; done) | (go_simp; with_reducible rfl))
      simp only [Act.put, getElem_toArray, getElem_cons_succ, getElem_cons_zero, setIfInBounds_toArray, set_cons_zero, set_cons_succ]
      refine goes_take (i := 6) (v := (.agg #[.int .i64 f0, .int .i64 f1, .int .u8 (c : Nat)])) rfl (by kernel_rfl) (by kernel_rfl) (by kernel_rfl) (by kernel_rfl) (fun _ _ _ h => h) (Or.inl ⟨by rfl, ?gy7⟩) (by assumption) ?gr7
      case gy7 => (intro W9 hW9; obtain ⟨k0, k1, k2, k3⟩ := hW9; have hlk := HLK.out W9 k3; go_simp)
      simp only [Act.put, getElem_toArray, getElem_cons_succ, getElem_cons_zero, setIfInBounds_toArray, set_cons_zero, set_cons_succ]
      refine goes_take (i := 7) (v := ?gv8) rfl (by kernel_rfl) (by kernel_rfl) (by kernel_rfl) (by kernel_rfl) (fun _ _ _ h => h) (Or.inl ⟨by rfl, ?gy8⟩) (by assumption) ?gr8
      case gy8 => (intro W9 hW9; obtain ⟨k0, k1, k2, k3⟩ := hW9; first | (go_simp; done) | (go_simp; with_reducible rfl))
      simp only [Act.put, getElem_toArray, getElem_cons_succ, getElem_cons_zero, setIfInBounds_toArray, set_cons_zero, set_cons_succ]
      refine goes_one (i := 8) (by kernel_rfl) rfl (fun K9 hK9 => ?_)
      go_simp
      obtain ⟨w6, hw6⟩ : ∃ w6, (w3.alloc (.cells #[.int .u8 (c : Nat)] 5)).drew = w6 := ⟨_, rfl⟩
      have hba : Below w3.heap.size w3 w6 := by
        have h := new_one w3 (.cells #[.int .u8 (c : Nat)] 5)
        rw [← hw6]; exact ⟨h.os, h.tape, h.output, h.size, h.block⟩
      have hbd : Below w3.drew.heap.size w3.drew w6 := ⟨hba.os, hba.tape, hba.output, hba.size, hba.block⟩
      have hx8 : w6.heap[w3.heap.size]? = some (.cells #[.int .u8 (c : Nat)] 5 (0, 0)) := by rw [← hw6]; exact heap_alloc_new w3 _
      have hs6 : w6.heap.size = w3.heap.size + 1 := by rw [← hw6]; show (w3.alloc _).heap.size = _; simp
      have HRA := Lib.hid (row_same HRD.out fun q e => hba.block q (HRD.out.lt q e).2)
      have HB6 : Hid (Below N w w6) := Lib.hid (HBD.out.trans (hba.mono (by omega)))
      obtain ⟨k0, k1, k2, k3⟩ := hHeld
      have hk6 := And.intro (cell_below hbd k0) (And.intro (cell_below hbd k1) (And.intro (cell_below hbd k2) ((hbd.block bm (by show bm < w3.heap.size; omega)).trans k3)))
      rw [hw6]
      refine hK9.out _ _ (fun _ => hk6) (fun hHeld => ?_)
      have hHeld := hHeld (by decide)
      clear hK9 K9 k0 k1 k2 k3 hk6 hw6 hbd
      refine goes_one (i := 9) (by kernel_rfl) rfl (fun K9 hK9 => ?_)
      rw [if_pos (by rfl)]
      refine wp_append_lies _ _ _ 67 rfl (N + 1) 5 i0 (.int .u8 0) 1 1 Try.underlying67 HI.out.1 HI.out.2.1 HI.out.2.2.1 HI.out.2.2.2 rfl (by decide) (.slice a5 l5 cp5) l5 (u8s (u.drop (j + 1)).reverse) rfl HRA.out ⟨w3.heap.size, 0, none⟩ 1 1 [.int .u8 (c : Nat)] rfl rfl (news_in (cs := #[.int .u8 (c : Nat)]) hx8) (by simp [Value.oneCell']) (by omega) (by unfold maxLen; omega) (by omega) (by omega) (w3.heap.size + 1) hs6 ?_
      intro g9 cap2 w8 h2 h3 h4 h5
      have hown : ∀ q, some q = (Value.slice a5 l5 cp5).ownBlock → N < q := fun q e => by have := (HRA.out.lt q e.symm).1; omega
      have HB8 : Hid (Below N w w8) := Lib.hid (HB6.out.grown h3 (by omega) (fun q e => by have := hown q e.symm; omega))
      have HX8 : Hid (w8.heap[N]? = some (.cells #[.int .i64 p0, .int .i64 p1] 92 (0, 0))) := Lib.hid ((h3.block N (by omega) (fun e => by have := hown N e; omega)).trans ((hba.block N (by omega)).trans HX3.out))
      have HR8 : Hid (w8.ownsRow (N + 1) 5 1 (.slice (some ⟨g9, 0, none⟩) (l5 + 1) cap2) (l5 + 1) (u8s (u.drop j).reverse)) := Lib.hid (by rw [HDR.out, u8s_snoc]; exact h2)
      have hw8 : N + 1 ≤ w8.heap.size := by have := h3.size; omega
      obtain ⟨k0, k1, k2, k3⟩ := hHeld
      have hk8 : ∀ {a : Addr} {v : Value}, w6.cell? a = some v → a.block ≤ N → w8.cell? a = some v := fun hc hn => (World.cell?_of_block (h3.block _ (cell_lt hc) (fun e => by have := hown _ e; omega))).trans hc
      refine hK9.out _ _ (fun _ => ⟨hk8 k0 (by show bw ≤ N; omega), hk8 k1 (Nat.le_refl _), hk8 k2 (Nat.le_refl _), (h3.block bm (by omega) (fun e => by have := hown _ e; omega)).trans k3⟩) (fun hHeld => ?_)
      have hHeld := hHeld (by decide)
      clear hK9 K9 k0 k1 k2 k3 hk8 h2 h3 h4 h5 hown hba hx8 HRA HB6 HX3 HBD HRD
      refine goes_one (i := 10) (by kernel_rfl) rfl (fun K9 hK9 => ?_)
      go_simp
      refine hK9.out _ _ (fun h => absurd rfl h) (fun _ => ?_)
      clear hK9 K9
      refine goes_done (by kernel_rfl) ?_ _
      have d0 : w8.drew.cell? ⟨bw, 3, none⟩ = some (.map (some bm)) := (cell_of_row w8 bw 3 _ _ _ ((HB8.out.block bw (by omega)).trans HBLK.out)).trans rfl
      have hx8 := HX8.out
      have d1 : w8.drew.cell? ⟨N, 0, none⟩ = some (.int .i64 p0) := (cell_of_row w8 N 0 _ _ _ hx8).trans rfl
      have d2 : w8.drew.cell? ⟨N, 1, none⟩ = some (.int .i64 p1) := (cell_of_row w8 N 1 _ _ _ hx8).trans rfl
      have d3 : w8.drew.heap[bm]? = w.heap[bm]? := HB8.out.block bm (by omega)
      have fz0 : w8.drew.frozen? ⟨N, 0, none⟩ = false := frozen_row (j := 0) (w := w8.drew) hx8
      have fz1 : w8.drew.frozen? ⟨N, 1, none⟩ = false := frozen_row (j := 1) (w := w8.drew) hx8
      have fz2 : w8.frozen? ⟨N, 0, none⟩ = false := frozen_row (j := 0) hx8
      have fz3 : w8.frozen? ⟨N, 1, none⟩ = false := frozen_row (j := 1) hx8
      clear hHeld hx8
      try go_upto_region 4 with fail
      refine region_goes 7 8 rfl (fun W => W.cell? ⟨bw, 3, none⟩ = some (.map (some bm)) ∧ W.cell? ⟨N, 0, none⟩ = some (.int .i64 p0) ∧ W.cell? ⟨N, 1, none⟩ = some (.int .i64 p1) ∧ W.heap[bm]? = w.heap[bm]? ∧ W.frozen? ⟨N, 0, none⟩ = false ∧ W.frozen? ⟨N, 1, none⟩ = false) mixed ⟨d0, d1, d2, d3, fz0, fz1⟩ (fun hHeld => ?_)
      clear d0 d1 d2 d3 fz0 fz1
      refine goes_take (i := 0) (v := ?gv9) rfl (by kernel_rfl) (by kernel_rfl) (by kernel_rfl) (by kernel_rfl) (fun _ _ _ h => h) (Or.inl ⟨by rfl, ?gy9⟩) (by assumption) ?gr9
      case gy9 => (intro W9 hW9; obtain ⟨k0, k1, k2, k3, k4, k5⟩ := hW9; first | (go_simp; done) | (go_simp; with_reducible rfl))
      simp only [Act.put, getElem_toArray, getElem_cons_succ, getElem_cons_zero, setIfInBounds_toArray, set_cons_zero, set_cons_succ]
      refine goes_take (i := 1) (v := ?gv10) rfl (by kernel_rfl) (by kernel_rfl) (by kernel_rfl) (by kernel_rfl) (fun _ _ _ h => h) (Or.inl ⟨by rfl, ?gy10⟩) (by assumption) ?gr10
      case gy10 => (intro W9 hW9; obtain ⟨k0, k1, k2, k3, k4, k5⟩ := hW9; first | (go_simp; done) | (go_simp; with_reducible rfl))
      simp only [Act.put, getElem_toArray, getElem_cons_succ, getElem_cons_zero, setIfInBounds_toArray, set_cons_zero, set_cons_succ]
      refine goes_take (i := 2) (v := ?gv11) rfl (by kernel_rfl) (by kernel_rfl) (by kernel_rfl) (by kernel_rfl) (fun _ _ _ h => h) (Or.inl ⟨by rfl, ?gy11⟩) (by assumption) ?gr11
      case gy11 => (intro W9 hW9; obtain ⟨k0, k1, k2, k3, k4, k5⟩ := hW9; first | (go_simp; done) | (go_simp; with_reducible rfl))
      simp only [Act.put, getElem_toArray, getElem_cons_succ, getElem_cons_zero, setIfInBounds_toArray, set_cons_zero, set_cons_succ]
      refine goes_take (i := 3) (v := ?gv12) rfl (by kernel_rfl) (by kernel_rfl) (by kernel_rfl) (by kernel_rfl) (fun _ _ _ h => h) (Or.inl ⟨by rfl, ?gy12⟩) (by assumption) ?gr12
      case gy12 => (intro W9 hW9; obtain ⟨k0, k1, k2, k3, k4, k5⟩ := hW9; first | (go_simp; done) | (go_simp; with_reducible rfl))
      simp only [Act.put, getElem_toArray, getElem_cons_succ, getElem_cons_zero, setIfInBounds_toArray, set_cons_zero, set_cons_succ]
      refine goes_take (i := 4) (v := ?gv13) rfl (by kernel_rfl) (by kernel_rfl) (by kernel_rfl) (by kernel_rfl) (fun _ _ _ h => h) (Or.inl ⟨by rfl, ?gy13⟩) (by assumption) ?gr13
      case gy13 => (intro W9 hW9; obtain ⟨k0, k1, k2, k3, k4, k5⟩ := hW9; first | (go_simp; done) | (go_simp; with_reducible rfl))
      simp only [Act.put, getElem_toArray, getElem_cons_succ, getElem_cons_zero, setIfInBounds_toArray, set_cons_zero, set_cons_succ]
      refine goes_take (i := 5) (v := (.agg #[.int .i64 f0, .int .i64 f1, .int .u8 (c : Nat)])) rfl (by kernel_rfl) (by kernel_rfl) (by kernel_rfl) (by kernel_rfl) (fun _ _ _ h => h) (Or.inl ⟨by rfl, ?gy14⟩) (by assumption) ?gr14
      case gy14 => (intro W9 hW9; obtain ⟨k0, k1, k2, k3, k4, k5⟩ := hW9; have hlk := HLK.out W9 k3; go_simp)
      simp only [Act.put, getElem_toArray, getElem_cons_succ, getElem_cons_zero, setIfInBounds_toArray, set_cons_zero, set_cons_succ]
      refine goes_take (i := 6) (v := ?gv15) rfl (by kernel_rfl) (by kernel_rfl) (by kernel_rfl) (by kernel_rfl) (fun _ _ _ h => h) (Or.inl ⟨by rfl, ?gy15⟩) (by assumption) ?gr15
      case gy15 => (intro W9 hW9; obtain ⟨k0, k1, k2, k3, k4, k5⟩ := hW9; first | (go_simp; done) | (go_simp; with_reducible rfl))
      simp only [Act.put, getElem_toArray, getElem_cons_succ, getElem_cons_zero, setIfInBounds_toArray, set_cons_zero, set_cons_succ]
      obtain ⟨k0, k1, k2, k3, k4, k5⟩ := hHeld
      refine goes_one (i := 7) (by kernel_rfl) rfl (fun K9 hK9 => ?_)
      go_simp
      refine hK9.out _ _ (fun h => absurd rfl h) (fun _ => ?_)
      clear hK9 K9 k0 k1 k2 k3 k4 k5 fz2 fz3
      refine goes_done (by kernel_rfl) ?_ _
      obtain ⟨w9, hw9⟩ : ∃ w9, ((w8.setCell ⟨N, 0, none⟩ (.int .i64 f0)).setCell ⟨N, 1, none⟩ (.int .i64 f1)).drew = w9 := ⟨_, rfl⟩
      have hx8 := HX8.out
      have HX9 : Hid (w9.heap[N]? = some (.cells #[.int .i64 (prT m n (u.take j)).1, .int .i64 (prT m n (u.take j)).2] 92 (0, 0))) := Lib.hid (by
        rw [HF01.out.1, HF01.out.2, ← hw9]
        have h1 : (w8.setCell ⟨N, 0, none⟩ (.int .i64 f0)).heap[N]? = some (.cells #[.int .i64 f0, .int .i64 p1] 92 (0, 0)) := by rw [setCell_block hx8]; rfl
        show ((w8.setCell ⟨N, 0, none⟩ (.int .i64 f0)).setCell ⟨N, 1, none⟩ (.int .i64 f1)).heap[N]? = _
        rw [setCell_block h1]; rfl)
      have HB9 : Hid (Below N w w9) := Lib.hid (by
        have h := (HB8.out.setCell (p := ⟨N, 0, none⟩) (Nat.le_refl N) (.int .i64 f0)).setCell (p := ⟨N, 1, none⟩) (Nat.le_refl N) (.int .i64 f1)
        rw [← hw9]; exact ⟨h.os, h.tape, h.output, h.size, h.block⟩)
      have HR9 : Hid (w9.ownsRow (N + 1) 5 1 (.slice (some ⟨g9, 0, none⟩) (l5 + 1) cap2) (u.length - j) (u8s (u.drop j).reverse)) := Lib.hid (by
        rw [show u.length - j = l5 + 1 by omega]
        refine row_same HR8.out fun q e => ?_
        have hq : q ≠ N := by have := (HR8.out.lt q e).1; omega
        rw [← hw9]
        show ((w8.setCell ⟨N, 0, none⟩ (.int .i64 f0)).setCell ⟨N, 1, none⟩ (.int .i64 f1)).heap[q]? = _
        rw [Below.heap_setCell _ _ _ _ hq, Below.heap_setCell _ _ _ _ hq])
      have hw9s : N + 1 ≤ w9.heap.size := by
        rw [← hw9]; show N + 1 ≤ ((w8.setCell ⟨N, 0, none⟩ (.int .i64 f0)).setCell ⟨N, 1, none⟩ (.int .i64 f1)).heap.size
        simp; omega
      rw [hw9]
      clear hw9 hx8 HX8 HR8 HB8 hw8
      go_wp2
      go_roundw
      case rel => exact ⟨j, by omega, by simp only [lenOf]; omega, hw9s, HX9, HR9, HB9⟩
      case measure => simp only [lenOf]; omega
end Go.Proofs.Ytamgldhnfcikbaa
set_option maxRecDepth 100000
namespace Go.Proofs.Ytamgldhnfcikbaa
open Go.RowKit

theorem run_nil (u : List Nat) : runS [] u = -1 := by
  rw [runS_start]
  exact run_nowhere [] u
theorem dif_nil (u : List Nat) : ¬ Dif [] [] u := by
  unfold Dif
  rw [run_nil]
  exact fun h => h rfl
theorem Walk.short {P : List Nat → Nat × Nat} {Q : List (List Nat)} {R : Nat → Nat} {i b : Nat} (h : Walk P Q R i b) : ∀ (j : Nat) (u : List Nat), Q[j]? = some u → u.length ≤ j := by
  intro j
  induction j using Nat.strongRecOn with
  | ind j ih =>
    intro u hu
    rcases h.below u (List.mem_of_getElem? hu) with rfl | ⟨i', b', v, h1, rfl, h3, _⟩
    · simp
    · have hlt : i' < j := by
        rcases Nat.lt_or_ge i' j with hl | hl
        · exact hl
        · exfalso
          have hc : code v < code (v ++ [b']) := by rw [code_snoc]; omega
          rcases Nat.lt_or_ge j i' with h4 | h4
          · have := rise_at h.rise hu h1 h4; omega
          · have : i' = j := by omega
            subst this
            rw [hu] at h1
            have := congrArg List.length (Option.some.inj h1)
            simp at this
      have := ih i' hlt v h1
      rw [List.length_append, List.length_singleton]; omega
theorem first_dif {m n : List Sta} (hm : ∀ s ∈ m, fitsB m.length s.arcs = true) (hn : ∀ s ∈ n, fitsB n.length s.arcs = true) {Q : List (List Nat)} {R : Nat → Nat} {i : Nat} (h : Walk (prM m n) Q R i 0) {u : List Nat} (hu : Q[i]? = some u)
    (hno : ∀ (j : Nat) (v : List Nat), Q[j]? = some v → j < i → ¬ Dif m n v) (hd : Dif m n u) : DiffP m n u true := by
  refine .inl ⟨rfl, h.bytes u (List.mem_of_getElem? hu), hd, fun t ht hdt => ?_⟩
  refine h.least (acc := accM m n) (next := nextM m n) (prM_append hm hn) hu (fun j v hj hlt => ?_) t ht ?_
  · rw [(accM_pr hm hn v).1, (accM_pr hm hn v).2]
    exact Decidable.of_not_not (hno j v hj hlt)
  · rw [(accM_pr hm hn t).1, (accM_pr hm hn t).2]; exact hdt
theorem no_dif {m n : List Sta} (hm : ∀ s ∈ m, fitsB m.length s.arcs = true) (hn : ∀ s ∈ n, fitsB n.length s.arcs = true) {Q : List (List Nat)} {R : Nat → Nat} (h : Walk (prM m n) Q R Q.length 0)
    (hno : ∀ (j : Nat) (v : List Nat), Q[j]? = some v → j < Q.length → ¬ Dif m n v) : DiffP m n [] false := by
  refine .inr ⟨rfl, rfl, fun t ht hdt => hdt ?_⟩
  have := h.none (acc := accM m n) (next := nextM m n) (prM_append hm hn) (fun v hv => by
    obtain ⟨j, hj, rfl⟩ := List.mem_iff_getElem.1 hv
    rw [(accM_pr hm hn _).1, (accM_pr hm hn _).2]
    exact Decidable.of_not_not (hno j _ (List.getElem?_eq_getElem hj) hj)) t ht
  rw [(accM_pr hm hn t).1, (accM_pr hm hn t).2] at this
  exact this
set_option linter.unusedSimpArgs false in
set_option maxHeartbeats 8000000 in
theorem find_any (m n : List Sta) (w0 : World) (N0 bw bs g cap bm B : Nat) (a0 a1 : Option Addr) (c0 c1 : Nat) (w : World)
    (hv : Hid (∀ wr, Below N0 w0 wr → MachAt wr (.slice a0 m.length c0) m)) (hu : Hid (∀ wr, Below N0 w0 wr → MachAt wr (.slice a1 n.length c1) n)) (hl0 : Hid (∀ s ∈ m, s.arcs.length < 9223372036854775808)) (hl1 : Hid (∀ s ∈ n, s.arcs.length < 9223372036854775808)) (hm0 : Hid (Mays m)) (hm1 : Hid (Mays n))
    (hf0 : Hid (∀ s ∈ m, fitsB m.length s.arcs = true)) (hf1 : Hid (∀ s ∈ n, fitsB n.length s.arcs = true)) (hsz : m.length + n.length < 9000) (hB : Hid (Below N0 w0 w)) (hN0 : N0 ≤ w0.heap.size) (hown : N0 ≤ bw ∧ N0 ≤ g ∧ N0 ≤ bm ∧ N0 ≤ B)
    (hS : Hid (WS w bw bs g cap (m.length + n.length + 1) bm B (.slice a0 m.length c0) (.slice a1 n.length c1) (.slice none 0 0) [] [] fun i => i)) :
    Calls Try.prog 38 #[.pointer (some ⟨bw, 0, none⟩), .func (.func 39) #[.agg #[.slice a0 m.length c0, .slice a1 n.length c1]] #[]] w fun e w' => (∃ u f, e = .returned (.tuple #[.string (strOf u), .bool f]) ∧ Hid (DiffP m n u f)) ∧ Hid (Below N0 w0 w') := by
  have mixed : Try.prog.follows .mixedOrders = true := by kernel_rfl
  obtain ⟨N, hN⟩ : ∃ N, w.heap.size = N := ⟨_, rfl⟩
  have hold := hS.out.old
  have hbig := hS.out.big
  have hsz0 := hB.out.size
  have e0 : w.cell? ⟨bw, 0, none⟩ = some (.slice a0 m.length c0) := (cell_of_row w bw 0 _ _ _ hS.out.blk).trans rfl
  have e1 : w.cell? ⟨bw, 1, none⟩ = some (.slice a1 n.length c1) := (cell_of_row w bw 1 _ _ _ hS.out.blk).trans rfl
  have hat0 := start_at m
  have hat1 := start_at n
  have hr0 := at_range hat0 (show m.length ≤ 9000 by omega)
  have hr1 := at_range hat1 (show n.length ≤ 9000 by omega)
  have HFIRST := Lib.hid (first_any m n a0 a1 c0 c1 w)
  have HVIS := Lib.hid (show ∀ wr, Below w.heap.size w wr → Calls Try.prog 55 #[.pointer (some ⟨bw, 0, none⟩), .agg #[.int .i64 (startS m), .int .i64 (startS n)], .agg #[.int .i64 0, .int .i64 0, .int .u8 0]] wr fun e w' => e = .returned (.tuple #[]) ∧ Hid (Visited wr w' bw bs g cap (m.length + n.length + 1) bm B (.slice a0 m.length c0) (.slice a1 n.length c1) (.slice none 0 0) [] [] (fun i => i) (mk m.length 0 (startS m)) (mk m.length 1 (startS n)) (startS m, startS n) (0, 0) 0) from fun wr hb =>
    visit_any (fun _ => 0) bw bs g cap (m.length + n.length + 1) bm B m.length c0 (mk m.length 0 (startS m)) (mk m.length 1 (startS n)) a0 (.slice a1 n.length c1) (.slice none 0 0) [] [] (fun i => i) (fun i => i) (startS m) (startS n) 0 0 0 wr (hS.out.below hb) (UF.alone _) (by omega) ⟨hr0.1, by omega, hr1.1, by omega⟩ (markN_mk hat0) (markN_mk hat1) (mk_lt hat0 _) (mk_lt1 hat1 _) (fun _ z hz => by cases hz) (by simp))
  clear hat0 hat1 hr0 hr1
  obtain ⟨s0, hs0⟩ : ∃ s0, startS m = s0 := ⟨_, rfl⟩
  obtain ⟨s1, hs1⟩ : ∃ s1, startS n = s1 := ⟨_, rfl⟩
  rw [hs0, hs1] at HFIRST HVIS
  by_cases h00 : m.length + n.length = 0
  · have hmz : m = [] := List.eq_nil_of_length_eq_zero (by omega)
    have hnz : n = [] := List.eq_nil_of_length_eq_zero (by omega)
    have HD : Hid (DiffP m n [] false) := Lib.hid (by
      rw [hmz, hnz]
      exact .inr ⟨rfl, rfl, fun t _ => dif_nil t⟩)
    have hz0 : s0 = -1 := by rw [← hs0, hmz]; rfl
    have hz1 : s1 = -1 := by rw [← hs1, hnz]; rfl
    clear hs0 hs1
    subst hz0 hz1
    clear hmz hnz
    go_enter Try.func38, Try.ntmps38
    go_wp2_with (first
      | (go_at_call 56; refine HFIRST.out.mono ?_; rintro e w5 ⟨rfl, hb5⟩; have HB5 := Lib.hid hb5; clear hb5)
      | (go_at_call 55; refine (HVIS.out w5 HB5.out).mono ?_; rintro e w6 ⟨rfl, hv6⟩))
    obtain ⟨hO, r', A', _, hcase⟩ := hv6.out
    have hws : WS w6 bw bs g cap (m.length + n.length + 1) bm B (.slice a0 m.length c0) (.slice a1 n.length c1) (.slice none 0 0) [] [] A' := by
      rcases hcase with ⟨_, h⟩ | ⟨hne, _⟩
      · exact h
      · exact absurd rfl hne
    have c2 : w6.cell? ⟨bw, 2, none⟩ = some (.slice none 0 0) := (cell_of_row w6 bw 2 _ _ _ hws.blk).trans rfl
    have HB6 : Hid (Below N0 w0 w6) := Lib.hid ((hB.out.trans (HB5.out.mono (by omega))).trans (hO.below (by have := HB5.out.size; omega) fun k hk ho => by
      rcases ho with h | h | h | e
      · omega
      · omega
      · omega
      · cases e))
    clear hv6 hO hcase hws e0 e1
    refine wp_loop_rounds 1 ?_
    rw [rounds_succ]; go_wp2_with fail
    exact bodyPost_ret (v := .tuple #[.string (strOf []), .bool false]) (by simp [results, Try.results38, go_sem]; try rfl) rfl ⟨⟨[], false, rfl, HD⟩, HB6⟩
  · have HST := Lib.hid (show ∀ wr w6, Visited wr w6 bw bs g cap (m.length + n.length + 1) bm B (.slice a0 m.length c0) (.slice a1 n.length c1) (.slice none 0 0) [] [] (fun i => i) (mk m.length 0 s0) (mk m.length 1 s1) (s0, s1) (0, 0) 0 → _ from fun wr w6 h =>
      St.first hf0.out hf1.out (w := wr) (w' := w6) (by rw [← hs0, ← hs1] at h; exact h) (by omega))
    clear hs0 hs1
    go_enter Try.func38, Try.ntmps38
    go_wp2_with (first
      | (go_at_call 56; refine HFIRST.out.mono ?_; rintro e w5 ⟨rfl, hb5⟩; have HB5 := Lib.hid hb5; clear hb5)
      | (go_at_call 55; refine (HVIS.out w5 HB5.out).mono ?_; rintro e w6 ⟨rfl, hv6⟩))
    obtain ⟨hO, vo1, L1, A1, R1, r1, _, hst⟩ := HST.out w5 w6 hv6.out
    have HB6 : Hid (Below N0 w0 w6) := Lib.hid ((hB.out.trans (HB5.out.mono (by omega))).trans (hO.below (by have := HB5.out.size; omega) fun k hk ho => by
      rcases ho with h | h | h | e
      · omega
      · omega
      · omega
      · cases e))
    have HST1 := Lib.hid hst
    clear hv6 hO hst HVIS HFIRST HST HB5 e0 e1 hS
    go_loopw [6] (fun z wr => ∃ (k : Nat) (vo' : Value) (Q' : List (List Nat)) (L' : List ((Int × Int) × Value)) (A' R' r' : Nat → Nat), z = .int .i64 k ∧ k ≤ Q'.length ∧ Q'.length ≤ m.length + n.length + 1 ∧ Hid (St m n wr bw bs g cap bm B (.slice a0 m.length c0) (.slice a1 n.length c1) vo' Q' L' A' R' r' k 0) ∧ Hid (∀ (j : Nat) (v : List Nat), Q'[j]? = some v → j < k → ¬ Dif m n v) ∧ Hid (Below N0 w0 wr)) (fun z _ => m.length + n.length + 2 - (intOf z).toNat)
    case atStart => exact ⟨0, vo1, [[]], L1, A1, R1, r1, rfl, by simp, by simp, HST1, Lib.hid (fun j v _ h => by omega), HB6⟩
    case round =>
      clear HST1 HB6
      obtain ⟨k, vo', Q', L', A', R', r', rfl, hk, hQl, HST, HNO, HBR⟩ := hrel
      have hblk := HST.out.ws.blk
      have hord := HST.out.ws.ord
      obtain ⟨ov, oc, rfl⟩ := row_form hord
      rw [List.length_map] at hblk hord
      have e2 : wr.cell? ⟨bw, 2, none⟩ = some (.slice ov Q'.length oc) := (cell_of_row wr bw 2 _ _ _ hblk).trans rfl
      by_cases hlt : k < Q'.length
      · have hd : decide ((k : Int) < Q'.length) = true := decide_eq_true (by omega)
        have hkl : (k : Int) < Q'.length := by omega
        obtain ⟨ob, oc2, ee, hoc⟩ := row_cell hord (by omega)
        cases ee
        have hQk : Q'[k]? = some Q'[k] := List.getElem?_eq_getElem hlt
        have hc0 := flatP_at (Q'.map (prT m n)) k (by rw [List.length_map]; exact hlt) 0 (by omega)
        have hc1 := flatP_at (Q'.map (prT m n)) k (by rw [List.length_map]; exact hlt) 1 (by omega)
        rw [List.getElem_map] at hc0 hc1
        have hin : Q'[k] ∈ Q' := List.getElem_mem hlt
        have hbytes := HST.out.wk.bytes _ hin
        obtain ⟨u, hu9⟩ : ∃ u, Q'[k] = u := ⟨_, rfl⟩
        rw [hu9] at hc0 hc1 hin hQk hbytes
        have hat0 := run_at hf0.out u
        have hat1 := run_at hf1.out u
        have e3 : wr.cell? ⟨ob, k * 2, none⟩ = some (.int .i64 (runS m u)) := hoc _ _ hc0
        have e4 : wr.cell? ⟨ob, k * 2 + 1, none⟩ = some (.int .i64 (runS n u)) := hoc _ _ hc1
        have HBB := Lib.hid (show Below N0 w0 wr from HBR.out)
        have HDIF := Lib.hid (differ_any (.slice a0 m.length c0) (.slice a1 n.length c1) m n (runS m u) (runS n u) wr (hv.out wr HBR.out) (hu.out wr HBR.out) hat0 hat1)
        clear hc0 hc1 hoc hat0 hat1
        by_cases hdf : Dif m n u
        · have HRES := Lib.hid (first_dif hf0.out hf1.out HST.out.wk hQk HNO.out hdf)
          have HDT := Lib.hid (show decide (accS m (runS m u) ≠ accS n (runS n u)) = true from decide_eq_true hdf)
          have HTX := Lib.hid (text_any m n bw bs g cap bm B k 0 (.slice a0 m.length c0) (.slice a1 n.length c1) (.slice (some ⟨ob, 0, none⟩) (Q'.map (prT m n)).length oc) Q' L' A' R' r' u)
          have hul := HST.out.wk.short k u hQk
          have HSD := Lib.hid (show ∀ w5, Below wr.heap.size wr w5 → Hid (St m n w5 bw bs g cap bm B (.slice a0 m.length c0) (.slice a1 n.length c1) (.slice (some ⟨ob, 0, none⟩) (Q'.map (prT m n)).length oc) Q' L' A' R' r' k 0) from fun w5 hb => Lib.hid (HST.out.below hb))
          rw [HDT.out] at HDIF
          go_wp2_with (first
            | (go_at_call 39; refine HDIF.out.mono ?_; rintro e w5 ⟨rfl, hb5⟩; have HB5 := Lib.hid hb5; have d2 := cell_below hb5 e2; have d3 := cell_below hb5 e3; have d4 := cell_below hb5 e4; clear hb5)
            | (go_at_call 57; refine (HTX.out w5 (HSD.out w5 HB5.out) hin (by omega)).mono ?_; rintro e w6 ⟨rfl, hb6⟩; have HB6 := Lib.hid hb6.out; clear hb6))
          exact bodyPost_ret (v := .tuple #[.string (strOf u), .bool true]) (by simp [results, Try.results38, go_sem]) rfl ⟨⟨u, true, rfl, HRES⟩, Lib.hid (HBB.out.trans ((HB5.out.trans (HB6.out.mono HB5.out.size)).mono (by have := HBB.out.size; omega)))⟩
        · have HND := Lib.hid hdf
          have HDT := Lib.hid (show decide (accS m (runS m u) ≠ accS n (runS n u)) = false from decide_eq_false hdf)
          have HSD := Lib.hid (show ∀ w5, Below wr.heap.size wr w5 → Hid (St m n w5 bw bs g cap bm B (.slice a0 m.length c0) (.slice a1 n.length c1) (.slice (some ⟨ob, 0, none⟩) (Q'.map (prT m n)).length oc) Q' L' A' R' r' k 0) from fun w5 hb => Lib.hid (HST.out.below hb))
          have HGO := Lib.hid (fun w5 (hb : Below wr.heap.size wr w5) => goOn_any m n w0 N0 bw bs g cap bm B k a0 a1 c0 c1 (.slice (some ⟨ob, 0, none⟩) (Q'.map (prT m n)).length oc) Q' L' A' R' r' u w5 hv hu hl0 hl1 hm0 hm1 hf0 hf1 hsz (Lib.hid (HBB.out.trans (hb.mono (by have := HBB.out.size; omega)))) hN0 hown (HSD.out w5 hb) (Lib.hid hQk))
          have HOB := Lib.hid (show B ≤ ob from (hord.lt ob rfl).1)
          rw [HDT.out] at HDIF
          clear hord hQk hdf
          go_wp2_with (first
            | (go_at_call 39; refine HDIF.out.mono ?_; rintro e w5 ⟨rfl, hb5⟩; have HB5 := Lib.hid hb5; have d2 := cell_below hb5 e2; have d3 := cell_below hb5 e3; have d4 := cell_below hb5 e4; clear hb5)
            | (go_at_call 58; refine (HGO.out w5 HB5.out).mono ?_; rintro e w6 ⟨rfl, ho6, hx6⟩; have HO6 := Lib.hid ho6.out; have HX6 := Lib.hid hx6.out; clear ho6 hx6))
          obtain ⟨vo2, Q2, L2, A2, R2, r2, _, hq2, hst2⟩ := HX6.out
          have HST2 := Lib.hid hst2.next
          have hql2 := hst2.len
          have hk2 : k < Q2.length := by
            have := hq2 k Q'[k] (List.getElem?_eq_getElem hlt)
            exact (List.getElem?_eq_some_iff.1 this).1
          have HNO2 : Hid (∀ (j : Nat) (v : List Nat), Q2[j]? = some v → j < k + 1 → ¬ Dif m n v) := Lib.hid (fun j v hj hj2 => by
            have h1 := hq2 j Q'[j] (List.getElem?_eq_getElem (by omega))
            rw [hj] at h1; cases h1
            rcases Nat.lt_or_ge j k with h2 | h2
            · exact HNO.out j _ (List.getElem?_eq_getElem (by omega)) h2
            · have : j = k := by omega
              subst this
              rw [hu9]; exact HND.out)
          have HB7 : Hid (Below N0 w0 w6) := Lib.hid ((HBB.out.trans (HB5.out.mono (by have := HBB.out.size; omega))).trans (HO6.out.below (by have := HB5.out.size; have := HBB.out.size; omega) fun q hk ho => by
            rcases ho with h | h | h | e
            · omega
            · omega
            · omega
            · cases e
              have := HOB.out
              have hk3 : ob < N0 := hk
              omega))
          clear hq2 hst2 HX6 HO6 HB5 HSD HGO HDIF HND HST HNO HBR
          go_roundw
          case rel => exact ⟨k + 1, vo2, Q2, L2, A2, R2, r2, num_succ k, hk2, hql2, HST2, HNO2, HB7⟩
          case measure => simp [intOf]; omega
      · obtain rfl : k = Q'.length := by omega
        have hd : decide ((Q'.length : Int) < Q'.length) = false := by simp
        have HRES := Lib.hid (no_dif hf0.out hf1.out HST.out.wk HNO.out)
        have HBB := Lib.hid (show Below N0 w0 wr from HBR.out)
        go_wp2
        exact bodyPost_ret (v := .tuple #[.string (strOf []), .bool false]) (by simp [results, Try.results38, go_sem]; try rfl) rfl ⟨⟨[], false, rfl, HRES⟩, HBB⟩
end Go.Proofs.Ytamgldhnfcikbaa
set_option maxRecDepth 100000
namespace Go.Proofs.Ytamgldhnfcikbaa
open List (getElem_toArray getElem_cons_succ getElem_cons_zero setIfInBounds_toArray set_cons_zero set_cons_succ)
open Go.RowKit

theorem sound_arcs {m : List Sta} (hl : ∀ s ∈ m, s.arcs.length < 9223372036854775808) : ∀ s ∈ soundS m, s.arcs.length < 9223372036854775808 := by
  unfold soundS
  cases checkB m
  · intro s hs; cases hs
  · exact hl
theorem sound_mays {m : List Sta} (hm : Mays m) : Mays (soundS m) := by
  unfold soundS
  cases checkB m
  · intro s hs; cases hs
  · exact hm
def DiffR (m n : List Sta) (e : Ending) : Prop := ∃ u f, e = .returned (.tuple #[.string (strOf u), .bool f]) ∧ Hid (DiffP (soundS m) (soundS n) u f)
set_option linter.unusedSimpArgs false in
set_option maxHeartbeats 4000000 in
theorem pdiffer_any (va vb : Value) (m n : List Sta) (w : World) (hv : MachAt w va m) (hu : MachAt w vb n) (hl0 : ∀ s ∈ m, s.arcs.length < 9223372036854775808) (hl1 : ∀ s ∈ n, s.arcs.length < 9223372036854775808) (hm0 : Mays m) (hm1 : Mays n) :
    Calls Try.prog 13 #[va, vb] w fun e w' => DiffR m n e ∧ Hid (Below w.heap.size w w') := by
  have mixed : Try.prog.follows .mixedOrders = true := by kernel_rfl
  have H1 := Lib.hid (sound_any va m w hv hl0 hm0)
  have H2 := Lib.hid (fun w5 (hb : Below w.heap.size w w5) => sound_any vb n w5 (hu.below hb) hl1 hm1)
  clear hv hu
  go_enter Try.func13, Try.ntmps13
  go_upto_region 2 with (first
    | (go_at_call 30; refine H1.out.mono ?_; rintro e w5 ⟨ua, rfl, ha, hb5⟩; have HA := Lib.hid ha.out; obtain ⟨a0, c0, rfl⟩ := ha.out.len; have HB5 := Lib.hid hb5.out; clear ha hb5 H1)
    | (go_at_call 30; refine (H2.out w5 HB5.out).mono ?_; rintro e w6 ⟨ub, rfl, hb, hb6⟩; have HBM := Lib.hid hb.out; obtain ⟨a1, c1, rfl⟩ := hb.out.len; have HB6 := Lib.hid hb6.out; clear hb hb6 H2))
  have ha6 := HA.out.below (HB5.out.trans (HB6.out.mono HB5.out.size))
  have hc1 := check_fits (soundS_ok m)
  have hc2 := check_fits (soundS_ok n)
  have hla := sound_arcs hl0
  have hlb := sound_arcs hl1
  have hma := sound_mays hm0
  have hmb := sound_mays hm1
  have hb6 := HBM.out.below HB6.out
  have HB : Hid (Below w.heap.size w w6) := Lib.hid (HB5.out.trans (HB6.out.mono HB5.out.size))
  have hsz6 := HB.out.size
  clear HA HBM HB5 HB6
  obtain ⟨m', hm'⟩ : ∃ m', soundS m = m' := ⟨_, rfl⟩
  obtain ⟨n', hn'⟩ : ∃ n', soundS n = n' := ⟨_, rfl⟩
  have HDR : Hid (∀ u f, DiffP m' n' u f → DiffR m n (.returned (.tuple #[.string (strOf u), .bool f]))) := Lib.hid (fun u f h => ⟨u, f, rfl, Lib.hid (by rw [hm', hn']; exact h)⟩)
  rw [hm'] at ha6 hc1 hla hma
  rw [hn'] at hb6 hc2 hlb hmb
  rw [hm', hn']
  clear hm' hn'
  obtain ⟨M, hM⟩ : ∃ M, w6.heap.size = M := ⟨_, rfl⟩
  obtain ⟨w7, hw7⟩ : ∃ w7, w6.alloc (.cells #[.slice a0 m'.length c0, .slice a1 n'.length c1] 58) = w7 := ⟨_, rfl⟩
  have hb7 : Below w6.heap.size w6 w7 := by rw [← hw7]; exact new_one w6 _
  have hs7 : w7.heap.size = M + 1 := by rw [← hw7]; simp [hM]
  have hx7 : w7.heap[M]? = some (.cells #[.slice a0 m'.length c0, .slice a1 n'.length c1] 58 (0, 0)) := by rw [← hw7, ← hM]; exact heap_alloc_new w6 _
  try rw [hM]
  try rw [hw7]
  clear hw7
  have f0 : w7.drew.cell? ⟨M, 0, none⟩ = some (.slice a0 m'.length c0) := (cell_of_row w7 M 0 _ _ _ hx7).trans rfl
  have f1 : w7.drew.cell? ⟨M, 1, none⟩ = some (.slice a1 n'.length c1) := (cell_of_row w7 M 1 _ _ _ hx7).trans rfl
  have HMA := Lib.hid (ha6.below (hb7.trans ((Below.refl w7.heap.size w7).drew.mono hb7.size)))
  have HMB := Lib.hid (hb6.below (hb7.trans ((Below.refl w7.heap.size w7).drew.mono hb7.size)))
  have HB7 := Lib.hid (HB.out.trans ((hb7.trans ((Below.refl w7.heap.size w7).drew.mono hb7.size)).mono hsz6))
  have HNW := Lib.hid (newWalk_any m'.length n'.length (m'.length + n'.length + 1) a0 a1 c0 c1 w7.drew rfl (by omega))
  clear hx7 ha6 hb6 HB hb7
  refine region_goes 109 9 rfl (fun W => W.cell? ⟨M, 0, none⟩ = some (.slice a0 m'.length c0) ∧ W.cell? ⟨M, 1, none⟩ = some (.slice a1 n'.length c1)) mixed ⟨f0, f1⟩ (fun hHeld => ?_)
  clear f0 f1
  refine goes_take0 (i := 0) (v := ?hv1) rfl (by kernel_rfl) (by kernel_rfl) (by kernel_rfl) rfl (fun _ _ _ h => h) (Or.inl ⟨by rfl, ?hy1⟩) (by assumption) ?hr1
  case hy1 => (intro W9 hW9; obtain ⟨k0, k1⟩ := hW9; first | (go_simp; done) | (go_simp; with_reducible rfl))
  simp only [Act.put, getElem_toArray, getElem_cons_succ, getElem_cons_zero, setIfInBounds_toArray, set_cons_zero, set_cons_succ]
  refine goes_take0 (i := 2) (v := ?hv2) rfl (by kernel_rfl) (by kernel_rfl) (by kernel_rfl) rfl (fun _ _ _ h => h) (Or.inl ⟨by rfl, ?hy2⟩) (by assumption) ?hr2
  case hy2 => (intro W9 hW9; obtain ⟨k0, k1⟩ := hW9; first | (go_simp; done) | (go_simp; with_reducible rfl))
  simp only [Act.put, getElem_toArray, getElem_cons_succ, getElem_cons_zero, setIfInBounds_toArray, set_cons_zero, set_cons_succ]
  refine goes_take0 (i := 3) (v := ?hv3) rfl (by kernel_rfl) (by kernel_rfl) (by kernel_rfl) rfl (fun _ _ _ h => h) (Or.inl ⟨by rfl, ?hy3⟩) (by assumption) ?hr3
  case hy3 => (intro W9 hW9; obtain ⟨k0, k1⟩ := hW9; first | (go_simp; done) | (go_simp; with_reducible rfl))
  simp only [Act.put, getElem_toArray, getElem_cons_succ, getElem_cons_zero, setIfInBounds_toArray, set_cons_zero, set_cons_succ]
  refine goes_one (i := 1) (by kernel_rfl) rfl (fun K9 hK9 => ?_)
  go_simp
  with_reducible refine HNW.out.mono ?_
  rintro e w8 ⟨bw, bs, g, cap, bm, rfl, hbw, hbs, hg, hbm, hws, hb8⟩
  obtain ⟨k0, k1⟩ := hHeld
  refine hK9.out _ _ (fun _ => ⟨cell_below hb8.out k0, cell_below hb8.out k1⟩) (fun hHeld => ?_)
  have hHeld := hHeld (by decide)
  clear hK9 K9 k0 k1
  have hs8 := hb8.out.size
  have HFD := Lib.hid (find_any m' n' w7.drew w7.drew.heap.size bw bs g cap bm w8.heap.size a0 a1 c0 c1 w8 (Lib.hid (fun wr hb => HMA.out.below hb)) (Lib.hid (fun wr hb => HMB.out.below hb)) (Lib.hid hla) (Lib.hid hlb) (Lib.hid hma) (Lib.hid hmb) (Lib.hid hc1.2) (Lib.hid hc2.2) (by omega) hb8 (Nat.le_refl _) ⟨hbw, hg, hbm, hs8⟩ hws)
  clear hws HNW
  refine goes_one (i := 4) (by kernel_rfl) rfl (fun K9 hK9 => ?_)
  go_simp
  with_reducible refine HFD.out.mono ?_
  rintro e w9 ⟨⟨u, f, rfl, hdp⟩, hb9⟩
  obtain ⟨k0, k1⟩ := hHeld
  have hb99 := hb9.out
  have hkk : ∀ {a : Addr} {v : Value}, w8.cell? a = some v → a.block = M → w9.cell? a = some v := fun {a v} h e => by
    rw [World.cell?_of_block ((hb9.out.block a.block (by rw [e]; show M < w7.heap.size; omega)).trans (hb8.out.block a.block (by rw [e]; show M < w7.heap.size; omega)).symm)]; exact h
  refine hK9.out _ _ (fun _ => ⟨hkk k0 rfl, hkk k1 rfl⟩) (fun hHeld => ?_)
  have hHeld := hHeld (by decide)
  clear hK9 K9 k0 k1 hkk HFD
  refine goes_take0 (i := 5) (v := ?hv4) rfl (by kernel_rfl) (by kernel_rfl) (by kernel_rfl) rfl (fun _ _ _ h => h) (Or.inl ⟨by rfl, ?hy4⟩) (by assumption) ?hr4
  case hy4 => (intro W9 hW9; obtain ⟨k0, k1⟩ := hW9; first | (go_simp; done) | (go_simp; with_reducible rfl))
  simp only [Act.put, getElem_toArray, getElem_cons_succ, getElem_cons_zero, setIfInBounds_toArray, set_cons_zero, set_cons_succ]
  refine goes_take0 (i := 6) (v := ?hv5) rfl (by kernel_rfl) (by kernel_rfl) (by kernel_rfl) rfl (fun _ _ _ h => h) (Or.inl ⟨by rfl, ?hy5⟩) (by assumption) ?hr5
  case hy5 => (intro W9 hW9; obtain ⟨k0, k1⟩ := hW9; first | (go_simp; done) | (go_simp; with_reducible rfl))
  simp only [Act.put, getElem_toArray, getElem_cons_succ, getElem_cons_zero, setIfInBounds_toArray, set_cons_zero, set_cons_succ]
  refine goes_take0 (i := 7) (v := ?hv6) rfl (by kernel_rfl) (by kernel_rfl) (by kernel_rfl) rfl (fun _ _ _ h => h) (Or.inl ⟨by rfl, ?hy6⟩) (by assumption) ?hr6
  case hy6 => (intro W9 hW9; obtain ⟨k0, k1⟩ := hW9; first | (go_simp; done) | (go_simp; with_reducible rfl))
  simp only [Act.put, getElem_toArray, getElem_cons_succ, getElem_cons_zero, setIfInBounds_toArray, set_cons_zero, set_cons_succ]
  refine goes_take0 (i := 8) (v := ?hv7) rfl (by kernel_rfl) (by kernel_rfl) (by kernel_rfl) rfl (fun _ _ _ h => h) (Or.inl ⟨by rfl, ?hy7⟩) (by assumption) ?hr7
  case hy7 => (intro W9 hW9; obtain ⟨k0, k1⟩ := hW9; first | (go_simp; done) | (go_simp; with_reducible rfl))
  simp only [Act.put, getElem_toArray, getElem_cons_succ, getElem_cons_zero, setIfInBounds_toArray, set_cons_zero, set_cons_succ]
  refine goes_done (by kernel_rfl) ?_ _
  go_wp2
  exact bodyPost_ret (v := .tuple #[.string (strOf u), .bool f]) (by simp [results, Try.results13, go_sem]) rfl ⟨HDR.out u f hdp.out, Lib.hid (HB7.out.trans (hb99.mono (by have := HB7.out.size; exact this)))⟩
set_option linter.unusedSimpArgs false in
theorem pshortest_any (va : Value) (m : List Sta) (w : World) (hv : MachAt w va m) (hl0 : ∀ s ∈ m, s.arcs.length < 9223372036854775808) (hm0 : Mays m) :
    Calls Try.prog 15 #[va] w fun e w' => DiffR m [] e ∧ Hid (Below w.heap.size w w') := by
  have HD := Lib.hid (pdiffer_any va (.slice none 0 0) m [] w hv (MachAt.nil w) hl0 (fun s hs => by cases hs) hm0 (fun s hs => by cases hs))
  clear hv
  go_enter Try.func15, Try.ntmps15
  go_wp2_with (go_at_call 13; refine HD.out.mono ?_; rintro e w5 ⟨⟨u, f, rfl, hp⟩, hb5⟩)
  exact bodyPost_ret (v := .tuple #[.string (strOf u), .bool f]) (by simp [results, Try.results15, go_sem]) rfl ⟨⟨u, f, rfl, hp⟩, hb5⟩
def AlikeP (m n : List Sta) (b : Bool) : Prop := b = true ↔ ∀ t : List Nat, (∀ c ∈ t, c < 256) → ¬ Dif m n t
theorem DiffP.alike {m n : List Sta} {u : List Nat} {f : Bool} (h : DiffP m n u f) : AlikeP m n (!f) := by
  unfold AlikeP
  rcases h with ⟨rfl, h1, h2, _⟩ | ⟨rfl, _, h1⟩
  · exact ⟨fun h => (by cases h), fun h => absurd h2 (h u h1)⟩
  · exact ⟨fun _ => h1, fun _ => rfl⟩
set_option linter.unusedSimpArgs false in
theorem palike_any (va vb : Value) (m n : List Sta) (w : World) (hv : MachAt w va m) (hu : MachAt w vb n) (hl0 : ∀ s ∈ m, s.arcs.length < 9223372036854775808) (hl1 : ∀ s ∈ n, s.arcs.length < 9223372036854775808) (hm0 : Mays m) (hm1 : Mays n) :
    Calls Try.prog 17 #[va, vb] w fun e w' => (∃ b, e = .returned (.bool b) ∧ AlikeP (soundS m) (soundS n) b) ∧ Hid (Below w.heap.size w w') := by
  have HD := Lib.hid (pdiffer_any va vb m n w hv hu hl0 hl1 hm0 hm1)
  clear hv hu
  go_enter Try.func17, Try.ntmps17
  go_wp2_with (go_at_call 13; refine HD.out.mono ?_; rintro e w5 ⟨⟨u, f, rfl, hp⟩, hb5⟩)
  exact bodyPost_ret (v := .bool (!f)) (by simp [results, Try.results17, go_sem]) rfl ⟨⟨!f, rfl, hp.out.alike⟩, hb5⟩
end Go.Proofs.Ytamgldhnfcikbaa
set_option maxRecDepth 100000
namespace Go.Proofs.Ytamgldhnfcikbaa
open Go.RowKit

def Slices (n : Nat) (f : Nat → Value) : Array Value := ((List.range n).map f).toArray
theorem slices_at {n i : Nat} (f : Nat → Value) (h : i < n) : (Slices n f)[i]? = some (f i) := by simp [Slices, h]
theorem slices_set {n k : Nat} {f g : Nat → Value} {v : Value} (hk : g k = v) (h : ∀ i, i < n → i ≠ k → f i = g i) : (Slices n f).setIfInBounds k v = Slices n g := by
  apply Array.ext_getElem?
  intro i
  rw [Array.getElem?_setIfInBounds]
  by_cases hi : i < n
  · by_cases e : k = i
    · subst e; rw [if_pos rfl, if_pos (by simpa [Slices] using hi), slices_at g hi, hk]
    · rw [if_neg e, slices_at f hi, slices_at g hi, h i hi (fun x => e x.symm)]
  · by_cases e : k = i
    · subst e; simp [Slices, hi]
    · rw [if_neg e]; simp [Slices, hi]
theorem made_slices (n : Nat) : madeCells (Value.cells (.slice none 0 0)) (n * 1) = Slices n fun _ => .slice none 0 0 := by
  apply Array.ext
  · simp [madeCells, Slices]
  · intro i h1 h2
    simp [madeCells, Slices, Value.cells, Nat.mod_one]
theorem make_slices {t e : TypeId} (ht : Try.prog.underlying t = some (.slice e)) (hinfo : (Try.prog.info? e).map (fun i => (i.zero, i.size, i.bytes)) = some (some (.slice none 0 0), 1, 24)) {c : Int} {n : Nat} (hc : c = n) (hn : n ≤ 100000) (w : World) :
    (Instr.makeSlice t (.int .i64 c) (.int .i64 c)).run Try.prog w = .ok (.slice (some ⟨w.heap.size, 0, none⟩) n n) (w.alloc (.cells (Slices n fun _ => .slice none 0 0) e)) := by
  subst hc
  obtain ⟨i, hi, hz, hs, hb⟩ := info_parts hinfo
  have := run_make (P := Try.prog) w t e i _ ht hi hz .i64 .i64 n n (by omega) (Int.le_refl _) (by rw [hb]; omega) (by omega)
  rw [← made_slices]
  simpa [hs] using this
structure RR {α : Type} (w : World) (e t : TypeId) (sz b B n : Nat) (g : α → List Value) (f : Nat → List α) (V : Nat → Value) : Prop where
  blk : w.heap[b]? = some (.cells (Slices n V) t (0, 0))
  own : ∀ i, i < n → w.ownsRow B e sz (V i) (f i).length ((f i).flatMap g)
  apart : ∀ i j k, i < n → j < n → (V i).ownBlock = some k → (V j).ownBlock = some k → i = j
  far : b < B
  big : B ≤ w.heap.size
theorem RR.lt {α : Type} {w : World} {e t : TypeId} {sz b B n : Nat} {g : α → List Value} {f : Nat → List α} {V : Nat → Value} (h : RR w e t sz b B n g f V) : b < w.heap.size := lt_of_block h.blk
theorem RR.cell {α : Type} {w : World} {e t : TypeId} {sz b B n i : Nat} {g : α → List Value} {f : Nat → List α} {V : Nat → Value} (h : RR w e t sz b B n g f V) (hi : i < n) : w.cell? ⟨b, i, none⟩ = some (V i) := by
  rw [cell_of_row w b i _ _ _ h.blk]; simp [Slices, hi]
theorem RR.frozen {α : Type} {w : World} {e t : TypeId} {sz b B n : Nat} {g : α → List Value} {f : Nat → List α} {V : Nat → Value} (h : RR w e t sz b B n g f V) (i : Nat) : w.frozen? ⟨b, i, none⟩ = false := frozen_row (j := i) h.blk
theorem RR.form {α : Type} {w : World} {e t : TypeId} {sz b B n i : Nat} {g : α → List Value} {f : Nat → List α} {V : Nat → Value} (h : RR w e t sz b B n g f V) (hi : i < n) : ∃ a c, V i = .slice a (f i).length c := row_form (h.own i hi)
theorem RR.keep {α : Type} {w w' : World} {e t : TypeId} {sz b B n : Nat} {g : α → List Value} {f : Nat → List α} {V : Nat → Value} (h : RR w e t sz b B n g f V) (hs : w.heap.size ≤ w'.heap.size)
    (hk : ∀ k, k < w.heap.size → (k = b ∨ B ≤ k) → w'.heap[k]? = w.heap[k]?) : RR w' e t sz b B n g f V :=
  ⟨(hk b h.lt (.inl rfl)).trans h.blk, fun i hi => row_same (h.own i hi) fun k ek => hk k ((h.own i hi).lt k ek).2 (.inr ((h.own i hi).lt k ek).1), h.apart, h.far, Nat.le_trans h.big hs⟩
theorem RR.below {α : Type} {w w' : World} {e t : TypeId} {sz b B n : Nat} {g : α → List Value} {f : Nat → List α} {V : Nat → Value} (h : RR w e t sz b B n g f V) (hb : Below w.heap.size w w') : RR w' e t sz b B n g f V :=
  h.keep hb.size fun k hk _ => hb.block k hk
theorem RR.new {α : Type} (w : World) (e t : TypeId) (sz n : Nat) (g : α → List Value) : RR (w.alloc (.cells (Slices n fun _ => .slice none 0 0) t)) e t sz w.heap.size (w.heap.size + 1) n g (fun _ => []) (fun _ => .slice none 0 0) :=
  ⟨heap_alloc_new w _, fun _ _ => World.ownsRow_nil _ _ _ _, fun _ _ _ _ _ h => (by cases h), by omega, by simp⟩
theorem RR.push {α : Type} {w w' : World} {e t : TypeId} {sz b B n i : Nat} {g : α → List Value} {f f' : Nat → List α} {V V' : Nat → Value} {v : Value} {x : α} (h : RR w e t sz b B n g f V) (hi : i < n)
    (hg : w.grownBy w' (V i).ownBlock) (hr : w'.ownsRow B e sz v ((f i).length + 1) ((f i).flatMap g ++ g x)) (hv : (V i).ownBlock = v.ownBlock ∨ ∃ q, v.ownBlock = some q ∧ w.heap.size ≤ q)
    (hV : V' i = v) (hV2 : ∀ j, j ≠ i → V' j = V j) (hf : f' i = f i ++ [x]) (hf2 : ∀ j, j ≠ i → f' j = f j) : RR (w'.setCell ⟨b, i, none⟩ v) e t sz b B n g f' V' := by
  have hb := h.lt
  have hne : (V i).ownBlock ≠ some b := fun ek => by have := ((h.own i hi).lt b ek).1; have := h.far; omega
  have hvB : ∀ q, v.ownBlock = some q → B ≤ q := fun q eq => by
    rcases hv with hv | ⟨q', hv, hq⟩
    · rw [← hv] at eq; exact ((h.own i hi).lt q eq).1
    · rw [hv] at eq; cases eq; have := h.big; omega
  refine ⟨?_, fun j hj => ?_, fun j1 j2 k h1 h2 e1 e2 => ?_, h.far, by have := h.big; have := hg.size; simp; omega⟩
  · have hx : w'.heap[b]? = some (.cells (Slices n V) t (0, 0)) := by rw [hg.block b hb (fun ek => hne ek.symm)]; exact h.blk
    rw [setCell_block hx, slices_set hV fun j _ hne => (hV2 j hne).symm]
  · by_cases hji : j = i
    · subst hji
      rw [hV, hf, List.length_append, List.length_singleton, List.flatMap_append, List.flatMap_singleton]
      refine row_same hr fun k ek => ?_
      have := hvB k ek
      have := h.far
      rw [Below.heap_setCell _ _ _ _ (show k ≠ b by omega)]
    · rw [hV2 j hji, hf2 j hji]
      refine row_same (h.own j hj) fun k ek => ?_
      have h3 := (h.own j hj).lt k ek
      have := h.far
      rw [Below.heap_setCell _ _ _ _ (show k ≠ b by omega)]
      exact hg.block k h3.2 fun e9 => hji (h.apart j i k hj hi ek e9.symm)
  · have fresh : ∀ j, j < n → j ≠ i → ∀ k, (V j).ownBlock = some k → v.ownBlock = some k → False := fun j hj hji k ek ev => by
      rcases hv with hv | ⟨q', hv, hq⟩
      · exact hji (h.apart j i k hj hi ek (hv.trans ev))
      · rw [hv] at ev; cases ev
        have := ((h.own j hj).lt _ ek).2; omega
    by_cases a1 : j1 = i <;> by_cases a2 : j2 = i
    · omega
    · subst a1; rw [hV] at e1; rw [hV2 j2 a2] at e2
      exact (fresh j2 h2 a2 k e2 e1).elim
    · subst a2; rw [hV] at e2; rw [hV2 j1 a1] at e1
      exact (fresh j1 h1 a1 k e1 e2).elim
    · rw [hV2 j1 a1] at e1; rw [hV2 j2 a2] at e2
      exact h.apart j1 j2 k h1 h2 e1 e2
theorem RR.at {α : Type} {w : World} {e t : TypeId} {sz b B n i : Nat} {g : α → List Value} {f : Nat → List α} {V : Nat → Value} (h : RR w e t sz b B n g f V) (hi : i < n) (hl : 0 < (f i).length) :
    ∃ q c, V i = .slice (some ⟨q, 0, none⟩) (f i).length c ∧ B ≤ q ∧ q < w.heap.size ∧ ∀ j u, ((f i).flatMap g)[j]? = some u → w.cell? ⟨q, j, none⟩ = some u := by
  obtain ⟨q, c, h1, h2⟩ := row_cell (h.own i hi) hl
  have := (h.own i hi).lt q (by rw [h1]; rfl)
  exact ⟨q, c, h1, this.1, this.2, h2⟩
end Go.Proofs.Ytamgldhnfcikbaa
