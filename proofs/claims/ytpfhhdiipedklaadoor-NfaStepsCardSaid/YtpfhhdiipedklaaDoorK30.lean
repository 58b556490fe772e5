/- Texts that a proof rests on: The machine as the reference has it. -/
import Derived.Test.YtpfhhdiipedklaaDoorK21
set_option maxRecDepth 100000
namespace Go.Proofs.YtpfhhdiipedklaaDoor
open Go.RowKit

theorem infoRArc : (Tryd.prog.info? 79).map (fun i => (i.zero, i.size, i.bytes)) = some (some (.agg #[.int .i64 0, .int .i64 0, .int .u64 0, .int .u64 0, .int .u64 0, .int .u64 0]), 6, 48) := by kernel_rfl
/-- Rows of the reference's steps. -/
def RowB (w : World) (v : Value) (l : List (Nat × Nat × BitVec 256)) : Prop := ∃ base, w.ownsRow base 79 6 v l.length (flA l)
theorem RowB.below {w w' : World} {v : Value} {l : List (Nat × Nat × BitVec 256)} (h : RowB w v l) (hb : Below w.heap.size w w') : RowB w' v l := by
  obtain ⟨b, h⟩ := h
  exact ⟨b, row_keep h fun _ _ _ h1 => (hb.block _ (lt_of_block h1)).trans h1⟩
theorem RowB.form {w : World} {v : Value} {l : List (Nat × Nat × BitVec 256)} (h : RowB w v l) : ∃ a c, v = .slice a l.length c := by
  obtain ⟨base, h⟩ := h
  rcases h.2 with ⟨rfl, h2⟩ | ⟨g, cap, cur, rfl, _⟩
  · exact ⟨none, 0, by rw [h2]⟩
  · exact ⟨_, _, rfl⟩
theorem RowB.at {w : World} {v : Value} {l : List (Nat × Nat × BitVec 256)} (h : RowB w v l) {i : Nat} (hi : i < l.length) : ∃ b c, v = .slice (some ⟨b, 0, none⟩) l.length c ∧ ∀ j u, j < 6 → [.int .i64 l[i].1, .int .i64 l[i].2.1, .int .u64 (wd l[i].2.2 0), .int .u64 (wd l[i].2.2 1), .int .u64 (wd l[i].2.2 2), .int .u64 (wd l[i].2.2 3)][j]? = some u → w.cell? ⟨b, i * 6 + j, none⟩ = some u := by
  obtain ⟨base, h⟩ := h
  obtain ⟨b, c, e, h2⟩ := row_cell h (by omega)
  exact ⟨b, c, e, fun j u hj hu => h2 _ _ ((flA_at hi j hj).trans hu)⟩
/-- While it is copied: so many steps are there. -/
structure PI (w0 wr : World) (N cnt : Nat) (ve va vb : Value) (l : List (Nat × Nat × BitVec 256)) : Prop where
  below : Below N w0 wr
  big : N + 3 ≤ wr.heap.size
  src : wr.heap[N]? = some (.cells #[.int .i64 cnt, ve, va, .int .i64 0, .int .i64 1] 27 (0, 0))
  res : wr.heap[N + 1]? = some (.cells #[.int .i64 0, .slice none 0 0, .slice none 0 0, .int .i64 0, .int .i64 0] 43 (0, 0))
  dst : wr.heap[N + 2]? = some (.cells #[.int .i64 cnt, ve, vb, .int .i64 0, .int .i64 1] 43 (0, 0))
  row : wr.ownsRow N 79 6 vb l.length (flA l)
theorem PI.push {w0 w w7 w8 : World} {N cnt g cap n : Nat} {ve va vb : Value} {l : List (Nat × Nat × BitVec 256)} {x y : Nat} {c : BitVec 256} {ys : List Value} (h : PI w0 w N cnt ve va vb l) (h7 : Below w.heap.size w w7) (hg : w7.grownBy w8 vb.ownBlock)
    (hrow : w8.ownsRow N 79 6 (.slice (some ⟨g, 0, none⟩) n cap) n ys) (hn : n = l.length + 1) (hys : ys = flA (l ++ [(x, y, c)])) :
    w8.cell? ⟨N + 2, 2, none⟩ = some vb ∧ w8.frozen? ⟨N + 2, 2, none⟩ = false ∧ PI w0 (w8.setCell ⟨N + 2, 2, none⟩ (.slice (some ⟨g, 0, none⟩) n cap)) N cnt ve va (.slice (some ⟨g, 0, none⟩) n cap) (l ++ [(x, y, c)]) := by
  subst hn hys
  have hno : ∀ k cs t, w.heap[k]? = some (.cells cs t (0, 0)) → t ≠ 79 → vb.ownBlock ≠ some k := fun k cs t h1 h2 h3 => by
    obtain ⟨cs', h4⟩ := row_block h.row h3
    rw [h1] at h4; cases h4; exact h2 rfl
  have h8 : ∀ k o, w.heap[k]? = some o → vb.ownBlock ≠ some k → w8.heap[k]? = some o := fun k o h1 h2 => by
    have hk := lt_of_block h1
    rw [hg.block k (by have := h7.size; omega) (fun e => h2 e.symm), h7.block k hk]; exact h1
  have hb8 := h8 (N + 2) _ h.dst (hno _ _ _ h.dst (by decide))
  have hgb : g ≠ N + 2 := fun e => by
    subst e
    obtain ⟨cs', h4⟩ := row_block hrow (g := N + 2) rfl
    rw [hb8] at h4; cases h4
  have hbig := h.big
  have hbl : Below N w0 w8 := (h.below.trans (h7.mono (by omega))).grown hg (by have := h7.size; omega) (fun k hk => (h.row.lt k hk).1)
  have hset : ∀ k o, w8.heap[k]? = some o → k ≠ N + 2 → (w8.setCell ⟨N + 2, 2, none⟩ (.slice (some ⟨g, 0, none⟩) (l.length + 1) cap)).heap[k]? = some o := fun k o h1 h2 => (Below.heap_setCell _ _ _ _ (by show k ≠ N + 2; exact h2)).trans h1
  refine ⟨(cell_of_row _ _ 2 _ _ _ hb8).trans rfl, free_cells hb8, ⟨hbl.setCell (p := ⟨N + 2, 2, none⟩) (by show N ≤ N + 2; omega) _, by have := hg.size; have := h7.size; simp only [World.size_setCell]; omega, ?_, ?_, ?_, (by simpa using (row_keep hrow fun g2 _ h1 h2 => hset g2 _ h2 (fun e => by simp [Value.ownBlock] at h1; omega)))⟩⟩
  · exact hset N _ (h8 N _ h.src (hno N _ _ h.src (by decide))) (by omega)
  · exact hset (N + 1) _ (h8 (N + 1) _ h.res (hno _ _ _ h.res (by decide))) (by omega)
  · rw [setCell_block hb8]; rfl
set_option linter.unusedSimpArgs false in
set_option maxHeartbeats 8000000 in
theorem plain_any (cnt : Nat) (A : List (Nat × Nat × BitVec 256)) (ae : Option Addr) (ne ce : Nat) (va : Value) (w : World) (hA : RowA w va A) (hla : A.length ≤ 20000) :
    Calls Tryd.prog 13 #[.agg #[.int .i64 cnt, .slice ae ne ce, va, .int .i64 0, .int .i64 1]] w fun e w' => ∃ vb, e = .returned (.agg #[.int .i64 cnt, .slice ae ne ce, vb, .int .i64 0, .int .i64 1]) ∧ Hid (RowB w' vb A) ∧ Hid (Below w.heap.size w w') := by
  obtain ⟨aa, ca, rfl⟩ := hA.form
  obtain ⟨i0, hi0, hz0, hz1, hz2⟩ := info_parts infoRArc
  have HI := Lib.hid (And.intro hi0 (And.intro hz0 (And.intro hz1 hz2)))
  obtain ⟨N, hN⟩ : ∃ N, w.heap.size = N := ⟨_, rfl⟩
  have mixed : Tryd.prog.follows .mixedOrders = true := by kernel_rfl
  have hp1 : PI w (((w.alloc (.cells #[.int .i64 cnt, .slice ae ne ce, .slice aa A.length ca, .int .i64 0, .int .i64 1] 27)).alloc (.cells #[.int .i64 0, .slice none 0 0, .slice none 0 0, .int .i64 0, .int .i64 0] 43)).alloc (.cells #[.int .i64 cnt, .slice ae ne ce, .slice none 0 0, .int .i64 0, .int .i64 1] 43)) N cnt (.slice ae ne ce) (.slice aa A.length ca) (.slice none 0 0) (A.take 0) := by
    have s1 : (w.alloc (.cells #[.int .i64 cnt, .slice ae ne ce, .slice aa A.length ca, .int .i64 0, .int .i64 1] 27)).heap.size = N + 1 := by simp [hN]
    have x1 := heap_alloc_new w (.cells #[.int .i64 cnt, .slice ae ne ce, .slice aa A.length ca, .int .i64 0, .int .i64 1] 27)
    have d1 := new_one w (.cells #[.int .i64 cnt, .slice ae ne ce, .slice aa A.length ca, .int .i64 0, .int .i64 1] 27)
    rw [hN] at x1 d1
    generalize w.alloc (.cells #[.int .i64 cnt, .slice ae ne ce, .slice aa A.length ca, .int .i64 0, .int .i64 1] 27) = u1 at *
    have s2 : (u1.alloc (.cells #[.int .i64 0, .slice none 0 0, .slice none 0 0, .int .i64 0, .int .i64 0] 43)).heap.size = N + 2 := by simp [s1]
    have x2 := heap_alloc_new u1 (.cells #[.int .i64 0, .slice none 0 0, .slice none 0 0, .int .i64 0, .int .i64 0] 43)
    have d2 := new_one u1 (.cells #[.int .i64 0, .slice none 0 0, .slice none 0 0, .int .i64 0, .int .i64 0] 43)
    rw [s1] at x2 d2
    generalize u1.alloc (.cells #[.int .i64 0, .slice none 0 0, .slice none 0 0, .int .i64 0, .int .i64 0] 43) = u2 at *
    have s3 : (u2.alloc (.cells #[.int .i64 cnt, .slice ae ne ce, .slice none 0 0, .int .i64 0, .int .i64 1] 43)).heap.size = N + 3 := by simp [s2]
    have x3 := heap_alloc_new u2 (.cells #[.int .i64 cnt, .slice ae ne ce, .slice none 0 0, .int .i64 0, .int .i64 1] 43)
    have d3 := new_one u2 (.cells #[.int .i64 cnt, .slice ae ne ce, .slice none 0 0, .int .i64 0, .int .i64 1] 43)
    rw [s2] at x3 d3
    have dd : Below (N + 1) u1 (u2.alloc (.cells #[.int .i64 cnt, .slice ae ne ce, .slice none 0 0, .int .i64 0, .int .i64 1] 43)) := d2.trans (d3.mono (by omega))
    exact ⟨d1.trans (dd.mono (by omega)), by omega, (dd.block N (by omega)).trans x1, (d3.block (N + 1) (by omega)).trans x2, x3, by simpa [flA] using World.ownsRow_nil _ _ _ _⟩
  have HP := Lib.hid hp1
  have HA := Lib.hid (show ∀ wr, Below N w wr → RowA wr (.slice aa A.length ca) A from fun wr hb => hA.below (by rw [hN]; exact hb))
  clear hp1 hA hi0 hz0 hz1 hz2
  rw [hN]
  go_enter Tryd.func13, Tryd.ntmps13
  go_upto_region 2 with fail
  generalize ((w.alloc (.cells #[.int .i64 cnt, .slice ae ne ce, .slice aa A.length ca, .int .i64 0, .int .i64 1] 27)).alloc (.cells #[.int .i64 0, .slice none 0 0, .slice none 0 0, .int .i64 0, .int .i64 0] 43)).alloc (.cells #[.int .i64 cnt, .slice ae ne ce, .slice none 0 0, .int .i64 0, .int .i64 1] 43) = w1 at *
  clear hN
  go_wp2
  go_loopw [4] (fun x wr => ∃ (k : Nat) (vb : Value), x = .int .i64 k ∧ k ≤ A.length ∧ Hid (PI w wr N cnt (.slice ae ne ce) (.slice aa A.length ca) vb (A.take k))) (fun x _ => A.length - (intOf x).toNat)
  case atStart => exact ⟨0, _, rfl, Nat.zero_le _, HP⟩
  case round =>
    clear HP
    obtain ⟨k, vb, rfl, hk, HK⟩ := hrel
    have n2 : wr.cell? ⟨N, 2, none⟩ = some (.slice aa A.length ca) := (cell_of_row wr N 2 _ _ _ HK.out.src).trans rfl
    by_cases hlt : k < A.length
    · have hdd : decide ((k : Int) < A.length) = true := by simpa using hlt
      obtain ⟨ab, ac, e, ha⟩ := (HA.out wr HK.out.below).at hlt
      cases e
      have HTK := Lib.hid (List.take_succ_eq_append_getElem hlt)
      have a0 := ha 0 _ (by omega) rfl
      have a1 := ha 1 _ (by omega) rfl
      have a2 := ha 2 _ (by omega) rfl
      have a3 := ha 3 _ (by omega) rfl
      have a4 := ha 4 _ (by omega) rfl
      have a5 := ha 5 _ (by omega) rfl
      clear ha
      rw [show A[k] = (A[k].1, A[k].2.1, A[k].2.2) from rfl] at HTK
      obtain ⟨x, hx1⟩ : ∃ x, A[k].1 = x := ⟨_, rfl⟩
      obtain ⟨y, hx2⟩ : ∃ y, A[k].2.1 = y := ⟨_, rfl⟩
      obtain ⟨c, hx3⟩ : ∃ c, A[k].2.2 = c := ⟨_, rfl⟩
      rw [hx1] at a0 HTK
      rw [hx2] at a1 HTK
      rw [hx3] at a2 a3 a4 a5 HTK
      have HX := Lib.hid (And.intro hx1 (And.intro hx2 hx3))
      clear hx1 hx2 hx3
      rw [Nat.add_zero] at a0
      have hlen : (A.take k).length = k := by rw [List.length_take]; omega
      have d2 : wr.drew.cell? ⟨N + 2, 2, none⟩ = some vb := (cell_of_row wr (N + 2) 2 _ _ _ HK.out.dst).trans rfl
      have dn : wr.drew.cell? ⟨N, 2, none⟩ = some (.slice (some ⟨ab, 0, none⟩) A.length ca) := n2
      have b0 : wr.drew.cell? ⟨ab, k * 6, none⟩ = some (.int .i64 x) := a0
      have b1 : wr.drew.cell? ⟨ab, k * 6 + 1, none⟩ = some (.int .i64 y) := a1
      have b2 : wr.drew.cell? ⟨ab, k * 6 + 2, none⟩ = some (.int .u64 (wd c 0)) := a2
      have b3 : wr.drew.cell? ⟨ab, k * 6 + 3, none⟩ = some (.int .u64 (wd c 1)) := a3
      have b4 : wr.drew.cell? ⟨ab, k * 6 + 4, none⟩ = some (.int .u64 (wd c 2)) := a4
      have b5 : wr.drew.cell? ⟨ab, k * 6 + 5, none⟩ = some (.int .u64 (wd c 3)) := a5
      obtain ⟨g, hg⟩ : ∃ g, wr.heap.size = g := ⟨_, rfl⟩
      have HG := Lib.hid hg
      have hbig := HK.out.big
      have HRV := Lib.hid (row_keep (w' := wr.drew.alloc (.cells #[.int .i64 x, .int .i64 y, .int .u64 (wd c 0), .int .u64 (wd c 1), .int .u64 (wd c 2), .int .u64 (wd c 3)] 79)) HK.out.row fun g2 cs _ h1 => (heap_alloc_old wr.drew _ (lt_of_block h1)).trans h1)
      rw [hlen] at HRV
      clear a0 a1 a2 a3 a4 a5 hg
      go_upto_region 5 with fail
      refine region_goes 24 25 rfl (fun W => W.cell? ⟨N + 2, 2, none⟩ = some vb ∧ W.cell? ⟨N, 2, none⟩ = some (.slice (some ⟨ab, 0, none⟩) A.length ca) ∧ W.cell? ⟨ab, k * 6, none⟩ = some (.int .i64 x) ∧ W.cell? ⟨ab, k * 6 + 1, none⟩ = some (.int .i64 y) ∧ W.cell? ⟨ab, k * 6 + 2, none⟩ = some (.int .u64 (wd c 0)) ∧ W.cell? ⟨ab, k * 6 + 3, none⟩ = some (.int .u64 (wd c 1)) ∧ W.cell? ⟨ab, k * 6 + 4, none⟩ = some (.int .u64 (wd c 2)) ∧ W.cell? ⟨ab, k * 6 + 5, none⟩ = some (.int .u64 (wd c 3))) mixed ⟨d2, dn, b0, b1, b2, b3, b4, b5⟩ (fun hHeld => ?_)
      clear d2 dn b0 b1 b2 b3 b4 b5 n2
      refine goes_take (i := 0) (v := ?gv1) rfl (by kernel_rfl) (by kernel_rfl) (by kernel_rfl) (by kernel_rfl) (fun _ _ _ h => h) (Or.inl ⟨by rfl, ?gy1⟩) (by assumption) ?gr1
      case gy1 => (intro W9 hW9; obtain ⟨k0, k1, k2, k3, k4, k5, k6, k7⟩ := hW9; first | (go_simp; done) | (go_simp; with_reducible rfl))
      simp only [Act.put, List.getElem_toArray, List.getElem_cons_succ, List.getElem_cons_zero, List.setIfInBounds_toArray, List.set_cons_zero, List.set_cons_succ]
      refine goes_take (i := 1) (v := ?gv2) rfl (by kernel_rfl) (by kernel_rfl) (by kernel_rfl) (by kernel_rfl) (fun _ _ _ h => h) (Or.inl ⟨by rfl, ?gy2⟩) (by assumption) ?gr2
      case gy2 => (intro W9 hW9; obtain ⟨k0, k1, k2, k3, k4, k5, k6, k7⟩ := hW9; first | (go_simp; done) | (go_simp; with_reducible rfl))
      simp only [Act.put, List.getElem_toArray, List.getElem_cons_succ, List.getElem_cons_zero, List.setIfInBounds_toArray, List.set_cons_zero, List.set_cons_succ]
      refine goes_take (i := 2) (v := ?gv3) rfl (by kernel_rfl) (by kernel_rfl) (by kernel_rfl) (by kernel_rfl) (fun _ _ _ h => h) (Or.inl ⟨by rfl, ?gy3⟩) (by assumption) ?gr3
      case gy3 => (intro W9 hW9; obtain ⟨k0, k1, k2, k3, k4, k5, k6, k7⟩ := hW9; first | (go_simp; done) | (go_simp; with_reducible rfl))
      simp only [Act.put, List.getElem_toArray, List.getElem_cons_succ, List.getElem_cons_zero, List.setIfInBounds_toArray, List.set_cons_zero, List.set_cons_succ]
      refine goes_take (i := 3) (v := ?gv4) rfl (by kernel_rfl) (by kernel_rfl) (by kernel_rfl) (by kernel_rfl) (fun _ _ _ h => h) (Or.inl ⟨by rfl, ?gy4⟩) (by assumption) ?gr4
      case gy4 => (intro W9 hW9; obtain ⟨k0, k1, k2, k3, k4, k5, k6, k7⟩ := hW9; first | (go_simp; done) | (go_simp; with_reducible rfl))
      simp only [Act.put, List.getElem_toArray, List.getElem_cons_succ, List.getElem_cons_zero, List.setIfInBounds_toArray, List.set_cons_zero, List.set_cons_succ]
      refine goes_take (i := 4) (v := ?gv5) rfl (by kernel_rfl) (by kernel_rfl) (by kernel_rfl) (by kernel_rfl) (fun _ _ _ h => h) (Or.inl ⟨by rfl, ?gy5⟩) (by assumption) ?gr5
      case gy5 => (intro W9 hW9; obtain ⟨k0, k1, k2, k3, k4, k5, k6, k7⟩ := hW9; first | (go_simp; done) | (go_simp; with_reducible rfl))
      simp only [Act.put, List.getElem_toArray, List.getElem_cons_succ, List.getElem_cons_zero, List.setIfInBounds_toArray, List.set_cons_zero, List.set_cons_succ]
      refine goes_take (i := 5) (v := ?gv6) rfl (by kernel_rfl) (by kernel_rfl) (by kernel_rfl) (by kernel_rfl) (fun _ _ _ h => h) (Or.inl ⟨by rfl, ?gy6⟩) (by assumption) ?gr6
      case gy6 => (intro W9 hW9; obtain ⟨k0, k1, k2, k3, k4, k5, k6, k7⟩ := hW9; first | (go_simp; done) | (go_simp; with_reducible rfl))
      simp only [Act.put, List.getElem_toArray, List.getElem_cons_succ, List.getElem_cons_zero, List.setIfInBounds_toArray, List.set_cons_zero, List.set_cons_succ]
      refine goes_take (i := 6) (v := ?gv7) rfl (by kernel_rfl) (by kernel_rfl) (by kernel_rfl) (by kernel_rfl) (fun _ _ _ h => h) (Or.inl ⟨by rfl, ?gy7⟩) (by assumption) ?gr7
      case gy7 => (intro W9 hW9; obtain ⟨k0, k1, k2, k3, k4, k5, k6, k7⟩ := hW9; first | (go_simp; done) | (go_simp; with_reducible rfl))
      simp only [Act.put, List.getElem_toArray, List.getElem_cons_succ, List.getElem_cons_zero, List.setIfInBounds_toArray, List.set_cons_zero, List.set_cons_succ]
      refine goes_take (i := 7) (v := ?gv8) rfl (by kernel_rfl) (by kernel_rfl) (by kernel_rfl) (by kernel_rfl) (fun _ _ _ h => h) (Or.inl ⟨by rfl, ?gy8⟩) (by assumption) ?gr8
      case gy8 => (intro W9 hW9; obtain ⟨k0, k1, k2, k3, k4, k5, k6, k7⟩ := hW9; first | (go_simp; done) | (go_simp; with_reducible rfl))
      simp only [Act.put, List.getElem_toArray, List.getElem_cons_succ, List.getElem_cons_zero, List.setIfInBounds_toArray, List.set_cons_zero, List.set_cons_succ]
      refine goes_take (i := 8) (v := ?gv9) rfl (by kernel_rfl) (by kernel_rfl) (by kernel_rfl) (by kernel_rfl) (fun _ _ _ h => h) (Or.inl ⟨by rfl, ?gy9⟩) (by assumption) ?gr9
      case gy9 => (intro W9 hW9; obtain ⟨k0, k1, k2, k3, k4, k5, k6, k7⟩ := hW9; first | (go_simp; done) | (go_simp; with_reducible rfl))
      simp only [Act.put, List.getElem_toArray, List.getElem_cons_succ, List.getElem_cons_zero, List.setIfInBounds_toArray, List.set_cons_zero, List.set_cons_succ]
      refine goes_take (i := 9) (v := ?gv10) rfl (by kernel_rfl) (by kernel_rfl) (by kernel_rfl) (by kernel_rfl) (fun _ _ _ h => h) (Or.inl ⟨by rfl, ?gy10⟩) (by assumption) ?gr10
      case gy10 => (intro W9 hW9; obtain ⟨k0, k1, k2, k3, k4, k5, k6, k7⟩ := hW9; first | (go_simp; done) | (go_simp; with_reducible rfl))
      simp only [Act.put, List.getElem_toArray, List.getElem_cons_succ, List.getElem_cons_zero, List.setIfInBounds_toArray, List.set_cons_zero, List.set_cons_succ]
      refine goes_take (i := 10) (v := ?gv11) rfl (by kernel_rfl) (by kernel_rfl) (by kernel_rfl) (by kernel_rfl) (fun _ _ _ h => h) (Or.inl ⟨by rfl, ?gy11⟩) (by assumption) ?gr11
      case gy11 => (intro W9 hW9; obtain ⟨k0, k1, k2, k3, k4, k5, k6, k7⟩ := hW9; first | (go_simp; done) | (go_simp; with_reducible rfl))
      simp only [Act.put, List.getElem_toArray, List.getElem_cons_succ, List.getElem_cons_zero, List.setIfInBounds_toArray, List.set_cons_zero, List.set_cons_succ]
      refine goes_take (i := 11) (v := ?gv12) rfl (by kernel_rfl) (by kernel_rfl) (by kernel_rfl) (by kernel_rfl) (fun _ _ _ h => h) (Or.inl ⟨by rfl, ?gy12⟩) (by assumption) ?gr12
      case gy12 => (intro W9 hW9; obtain ⟨k0, k1, k2, k3, k4, k5, k6, k7⟩ := hW9; first | (go_simp; done) | (go_simp; with_reducible rfl))
      simp only [Act.put, List.getElem_toArray, List.getElem_cons_succ, List.getElem_cons_zero, List.setIfInBounds_toArray, List.set_cons_zero, List.set_cons_succ]
      refine goes_take (i := 12) (v := ?gv13) rfl (by kernel_rfl) (by kernel_rfl) (by kernel_rfl) (by kernel_rfl) (fun _ _ _ h => h) (Or.inl ⟨by rfl, ?gy13⟩) (by assumption) ?gr13
      case gy13 => (intro W9 hW9; obtain ⟨k0, k1, k2, k3, k4, k5, k6, k7⟩ := hW9; first | (go_simp; done) | (go_simp; with_reducible rfl))
      simp only [Act.put, List.getElem_toArray, List.getElem_cons_succ, List.getElem_cons_zero, List.setIfInBounds_toArray, List.set_cons_zero, List.set_cons_succ]
      refine goes_take (i := 13) (v := ?gv14) rfl (by kernel_rfl) (by kernel_rfl) (by kernel_rfl) (by kernel_rfl) (fun _ _ _ h => h) (Or.inl ⟨by rfl, ?gy14⟩) (by assumption) ?gr14
      case gy14 => (intro W9 hW9; obtain ⟨k0, k1, k2, k3, k4, k5, k6, k7⟩ := hW9; first | (go_simp; done) | (go_simp; with_reducible rfl))
      simp only [Act.put, List.getElem_toArray, List.getElem_cons_succ, List.getElem_cons_zero, List.setIfInBounds_toArray, List.set_cons_zero, List.set_cons_succ]
      refine goes_take (i := 14) (v := ?gv15) rfl (by kernel_rfl) (by kernel_rfl) (by kernel_rfl) (by kernel_rfl) (fun _ _ _ h => h) (Or.inl ⟨by rfl, ?gy15⟩) (by assumption) ?gr15
      case gy15 => (intro W9 hW9; obtain ⟨k0, k1, k2, k3, k4, k5, k6, k7⟩ := hW9; first | (go_simp; done) | (go_simp; with_reducible rfl))
      simp only [Act.put, List.getElem_toArray, List.getElem_cons_succ, List.getElem_cons_zero, List.setIfInBounds_toArray, List.set_cons_zero, List.set_cons_succ]
      refine goes_take (i := 15) (v := ?gv16) rfl (by kernel_rfl) (by kernel_rfl) (by kernel_rfl) (by kernel_rfl) (fun _ _ _ h => h) (Or.inl ⟨by rfl, ?gy16⟩) (by assumption) ?gr16
      case gy16 => (intro W9 hW9; obtain ⟨k0, k1, k2, k3, k4, k5, k6, k7⟩ := hW9; first | (go_simp; done) | (go_simp; with_reducible rfl))
      simp only [Act.put, List.getElem_toArray, List.getElem_cons_succ, List.getElem_cons_zero, List.setIfInBounds_toArray, List.set_cons_zero, List.set_cons_succ]
      refine goes_take (i := 16) (v := ?gv17) rfl (by kernel_rfl) (by kernel_rfl) (by kernel_rfl) (by kernel_rfl) (fun _ _ _ h => h) (Or.inl ⟨by rfl, ?gy17⟩) (by assumption) ?gr17
      case gy17 => (intro W9 hW9; obtain ⟨k0, k1, k2, k3, k4, k5, k6, k7⟩ := hW9; first | (go_simp; done) | (go_simp; with_reducible rfl))
      simp only [Act.put, List.getElem_toArray, List.getElem_cons_succ, List.getElem_cons_zero, List.setIfInBounds_toArray, List.set_cons_zero, List.set_cons_succ]
      refine goes_take (i := 17) (v := ?gv18) rfl (by kernel_rfl) (by kernel_rfl) (by kernel_rfl) (by kernel_rfl) (fun _ _ _ h => h) (Or.inl ⟨by rfl, ?gy18⟩) (by assumption) ?gr18
      case gy18 => (intro W9 hW9; obtain ⟨k0, k1, k2, k3, k4, k5, k6, k7⟩ := hW9; first | (go_simp; done) | (go_simp; with_reducible rfl))
      simp only [Act.put, List.getElem_toArray, List.getElem_cons_succ, List.getElem_cons_zero, List.setIfInBounds_toArray, List.set_cons_zero, List.set_cons_succ]
      refine goes_take (i := 18) (v := ?gv19) rfl (by kernel_rfl) (by kernel_rfl) (by kernel_rfl) (by kernel_rfl) (fun _ _ _ h => h) (Or.inl ⟨by rfl, ?gy19⟩) (by assumption) ?gr19
      case gy19 => (intro W9 hW9; obtain ⟨k0, k1, k2, k3, k4, k5, k6, k7⟩ := hW9; first | (go_simp; done) | (go_simp; with_reducible rfl))
      simp only [Act.put, List.getElem_toArray, List.getElem_cons_succ, List.getElem_cons_zero, List.setIfInBounds_toArray, List.set_cons_zero, List.set_cons_succ]
      refine goes_take (i := 19) (v := ?gv20) rfl (by kernel_rfl) (by kernel_rfl) (by kernel_rfl) (by kernel_rfl) (fun _ _ _ h => h) (Or.inl ⟨by rfl, ?gy20⟩) (by assumption) ?gr20
      case gy20 => (intro W9 hW9; obtain ⟨k0, k1, k2, k3, k4, k5, k6, k7⟩ := hW9; first | (go_simp; done) | (go_simp; with_reducible rfl))
      simp only [Act.put, List.getElem_toArray, List.getElem_cons_succ, List.getElem_cons_zero, List.setIfInBounds_toArray, List.set_cons_zero, List.set_cons_succ]
      refine goes_take (i := 20) (v := ?gv21) rfl (by kernel_rfl) (by kernel_rfl) (by kernel_rfl) (by kernel_rfl) (fun _ _ _ h => h) (Or.inl ⟨by rfl, ?gy21⟩) (by assumption) ?gr21
      case gy21 => (intro W9 hW9; obtain ⟨k0, k1, k2, k3, k4, k5, k6, k7⟩ := hW9; first | (go_simp; done) | (go_simp; with_reducible rfl))
      simp only [Act.put, List.getElem_toArray, List.getElem_cons_succ, List.getElem_cons_zero, List.setIfInBounds_toArray, List.set_cons_zero, List.set_cons_succ]
      refine goes_one (i := 21) (by kernel_rfl) rfl (fun K9 hK9 => ?_)
      go_simp
      have hba := new_one wr.drew (.cells #[.int .i64 x, .int .i64 y, .int .u64 (wd c 0), .int .u64 (wd c 1), .int .u64 (wd c 2), .int .u64 (wd c 3)] 79)
      obtain ⟨k0, k1, k2, k3, k4, k5, k6, k7⟩ := hHeld
      rw [HG.out]
      refine hK9.out _ _ (fun _ => ⟨cell_below hba k0, cell_below hba k1, cell_below hba k2, cell_below hba k3, cell_below hba k4, cell_below hba k5, cell_below hba k6, cell_below hba k7⟩) (fun hHeld => ?_)
      have hHeld := hHeld (by decide)
      clear hK9 K9 k0 k1 k2 k3 k4 k5 k6 k7
      refine goes_one (i := 22) (by kernel_rfl) rfl (fun K9 hK9 => ?_)
      rw [if_pos (by rfl)]
      refine wp_append_lies _ _ _ 41 rfl N 79 i0 (.agg #[.int .i64 0, .int .i64 0, .int .u64 0, .int .u64 0, .int .u64 0, .int .u64 0]) 6 48 Tryd.underlying41 HI.out.1 HI.out.2.1 HI.out.2.2.1 HI.out.2.2.2 rfl (by decide) vb k (flA (A.take k)) rfl HRV.out ⟨g, 0, none⟩ 1 1 [.int .i64 x, .int .i64 y, .int .u64 (wd c 0), .int .u64 (wd c 1), .int .u64 (wd c 2), .int .u64 (wd c 3)] rfl rfl (news_in (cs := #[.int .i64 x, .int .i64 y, .int .u64 (wd c 0), .int .u64 (wd c 1), .int .u64 (wd c 2), .int .u64 (wd c 3)]) (by have := heap_alloc_new wr.drew (.cells #[.int .i64 x, .int .i64 y, .int .u64 (wd c 0), .int .u64 (wd c 1), .int .u64 (wd c 2), .int .u64 (wd c 3)] 79); rw [show wr.drew.heap.size = g from HG.out] at this; exact this)) (by simp [Value.oneCell']) (by omega) (by unfold maxLen; omega) (by omega) (by show N ≤ (wr.alloc _).heap.size; simp only [World.size_alloc]; omega) (g + 1) (by show (wr.alloc _).heap.size = g + 1; simp only [World.size_alloc]; rw [HG.out]) ?_
      intro g9 cap2 w8 h2 h3 h4 h5
      have h7 : Below wr.heap.size wr (wr.drew.alloc (.cells #[.int .i64 x, .int .i64 y, .int .u64 (wd c 0), .int .u64 (wd c 1), .int .u64 (wd c 2), .int .u64 (wd c 3)] 79)) := (Below.refl _ wr).drew.trans (new_one wr.drew _)
      obtain ⟨c8, f8, hst⟩ := HK.out.push (x := x) (y := y) (c := c) h7 h3 h2 (by rw [hlen]) (flA_snoc _ _ _ _).symm
      have hbw8 : Below N w w8 := by
        have := HK.out.below
        exact (this.trans (h7.mono (by omega))).grown h3 (by show N ≤ (wr.alloc _).heap.size; simp only [World.size_alloc]; omega) (fun k hk => (HK.out.row.lt k hk).1)
      obtain ⟨ab2, ac2, e, hrow8⟩ := (HA.out w8 hbw8).at hlt
      cases e
      rw [HX.out.1, HX.out.2.1, HX.out.2.2] at hrow8
      have HST := Lib.hid hst
      refine hK9.out _ _ (fun _ => ?_) (fun hHeld => ?_)
      · exact ⟨c8, by
          have h9 : w8.heap[N]? = some (.cells #[.int .i64 cnt, .slice ae ne ce, .slice (some ⟨ab, 0, none⟩) A.length ca, .int .i64 0, .int .i64 1] 27 (0, 0)) := by
            have := hst.src
            rwa [Below.heap_setCell _ _ _ _ (by show N ≠ N + 2; omega)] at this
          exact (cell_of_row w8 N 2 _ _ _ h9).trans rfl, (by have h9 := hrow8 0 _ (by omega) rfl; rwa [Nat.add_zero] at h9), hrow8 1 _ (by omega) rfl, hrow8 2 _ (by omega) rfl, hrow8 3 _ (by omega) rfl, hrow8 4 _ (by omega) rfl, hrow8 5 _ (by omega) rfl⟩
      have hHeld := hHeld (by decide)
      clear hK9 K9 h2 h3 h4 h5 h7 hst
      refine goes_one (i := 23) (by kernel_rfl) rfl (fun K9 hK9 => ?_)
      go_simp
      refine hK9.out _ _ (fun _ => hHeld) (fun hHeld => ?_)
      have hHeld := hHeld (by decide)
      clear hK9 K9
      refine goes_one (i := 24) (by kernel_rfl) rfl (fun K9 hK9 => ?_)
      go_simp
      refine hK9.out _ _ (fun h => absurd rfl h) (fun _ => ?_)
      clear hK9 K9 hHeld
      refine goes_done (by kernel_rfl) ?_ _
      go_wp2
      refine ⟨⟨k + 1, .slice (some ⟨g9, 0, none⟩) (k + 1) cap2, rfl, hlt, Lib.hid ?_⟩, by simp only [intOf]; omega⟩
      rw [HTK.out]; exact HST.out
    · have hdd : decide ((k : Int) < A.length) = false := by simpa using hlt
      obtain rfl : k = A.length := by omega
      rw [List.take_length] at HK
      obtain ⟨ab, cb, rfl⟩ := RowB.form ⟨N, HK.out.row⟩
      obtain ⟨z0, z1, z2, z3, z4, y0, y1, y2, y3, y4⟩ := nfa_cells HK.out.res
      have hdst := HK.out.dst
      rw [show N + 2 = N + 1 + 1 from rfl] at hdst
      obtain ⟨x0, x1, x2, x3, x4, _⟩ := nfa_cells hdst
      clear hdst
      have HFR := Lib.hid (show RowB (((((wr.setCell ⟨N + 1, 0, none⟩ (.int .i64 cnt)).setCell ⟨N + 1, 1, none⟩ (.slice ae ne ce)).setCell ⟨N + 1, 2, none⟩ (.slice ab A.length cb)).setCell ⟨N + 1, 3, none⟩ (.int .i64 0)).setCell ⟨N + 1, 4, none⟩ (.int .i64 1)) (.slice ab A.length cb) A from ⟨N, row_keep HK.out.row fun g2 cs _ h1 => by
        rw [heap_five (fun e => by subst e; have := HK.out.res; rw [h1] at this; cases this)]; exact h1⟩)
      have HFB := Lib.hid (below_five HK.out.below (Nat.le_succ N) (.int .i64 cnt) (.slice ae ne ce) (.slice ab A.length cb) (.int .i64 0) (.int .i64 1))
      go_wp2
      exact bodyPost_ret (v := .agg #[.int .i64 cnt, .slice ae ne ce, .slice ab A.length cb, .int .i64 0, .int .i64 1]) (by simp [results, Tryd.results13, go_sem, *]) rfl ⟨_, rfl, HFR, HFB⟩
end Go.Proofs.YtpfhhdiipedklaaDoor
