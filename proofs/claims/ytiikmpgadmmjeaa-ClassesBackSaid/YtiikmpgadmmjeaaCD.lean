/- Contracts: the rows of classes.Table, and the whole of it. -/
import Derived.Test.YtiikmpgadmmjeaaCB
set_option maxRecDepth 100000
namespace Go.Proofs.Ytiikmpgadmmjeaa
open Go.RowKit

/-- A state's row. -/
def rowS (m : List Sta) (i : Nat) : List Int := (List.range (cntOf m)).map fun k => nextS m (i : Nat) (lowF (clsOf (likeB m)) 256 k)
def tabS (m : List Sta) : List (List Int) := (List.range m.length).map (rowS m)
/-- A box. -/
def Bx (w : World) (b : Nat) (t : TypeId) (v : Value) : Prop := w.heap[b]? = some (.cells #[v] t (0, 0))
theorem Bx.cell {w : World} {b : Nat} {t : TypeId} {v : Value} (h : Bx w b t v) : w.cell? ⟨b, 0, none⟩ = some v := (cell_of_row w b 0 _ _ _ h).trans rfl
theorem Bx.below {w w' : World} {b : Nat} {t : TypeId} {v : Value} (h : Bx w b t v) (hb : Below w.heap.size w w') : Bx w' b t v := (hb.block b (lt_of_block h)).trans h
theorem Bx.new (w : World) (t : TypeId) (v : Value) : Bx (w.alloc (.cells #[v] t)) w.heap.size t v := heap_alloc_new w _
set_option linter.unusedSimpArgs false in
set_option maxHeartbeats 4000000 in
theorem tab11_any (bm bs bl L n k s : Nat) (vm : Value) (m : List Sta) (f : Nat → Nat) (w : World) (hv : MachAt w vm m) (hl : ∀ s ∈ m, s.arcs.length < 9223372036854775808) (hm : Mays m) (h1 : Bx w bm 23 vm) (h2 : Bx w bs 3 (.int .i64 s)) (h3 : Bx w bl 28 (.slice (some ⟨L, 0, none⟩) n n)) (h4 : LBlk w L n f) (hk : k < n) :
    Calls Try.prog 30 #[.int .i64 k, .pointer (some ⟨bm, 0, none⟩), .pointer (some ⟨bs, 0, none⟩), .pointer (some ⟨bl, 0, none⟩)] w fun e w' => e = .returned (.int .i64 (nextS m s (f k))) ∧ Below w.heap.size w w' := by
  have mixed : Try.prog.follows .mixedOrders = true := by kernel_rfl
  have c1 := h1.cell
  have c2 := h2.cell
  have c3 := h3.cell
  have c4 := h4.cell hk
  have HNX := Lib.hid (fun W (hb : Below w.heap.size w W) => dnext_any vm m (s : Nat) (f k) W (hv.below hb) hl hm)
  have hki : (k : Int) < n := by omega
  clear h1 h2 h3 h4 hv hl hm
  obtain ⟨fk, hfk⟩ : ∃ fk, f k = fk := ⟨_, rfl⟩
  rw [hfk] at c4 HNX ⊢
  go_enter Try.func30, Try.ntmps30
  go_upto_region 1 with fail
  refine region_goes 8 8 rfl (fun W => W.cell? ⟨bm, 0, none⟩ = some vm ∧ W.cell? ⟨bs, 0, none⟩ = some (.int .i64 s) ∧ W.cell? ⟨bl, 0, none⟩ = some (.slice (some ⟨L, 0, none⟩) n n) ∧ W.cell? ⟨L, k, none⟩ = some (.int .u8 fk)) mixed ⟨c1, c2, c3, c4⟩ (fun hHeld => ?_)
  refine goes_take0 (i := 0) (v := ?gw0) rfl (by kernel_rfl) (by kernel_rfl) (by kernel_rfl) rfl (fun _ _ _ h => h) (Or.inl ⟨by rfl, ?gx0⟩) (by assumption) ?gq0
  case gx0 => (intro W9 hW9; obtain ⟨k1, k2, k3, k4⟩ := hW9; first | (go_simp; done) | (go_simp; with_reducible rfl))
  simp only [Act.put, List.getElem_toArray, List.getElem_cons_succ, List.getElem_cons_zero, List.setIfInBounds_toArray, List.set_cons_zero, List.set_cons_succ]
  refine goes_take0 (i := 1) (v := ?gw1) rfl (by kernel_rfl) (by kernel_rfl) (by kernel_rfl) rfl (fun _ _ _ h => h) (Or.inl ⟨by rfl, ?gx1⟩) (by assumption) ?gq1
  case gx1 => (intro W9 hW9; obtain ⟨k1, k2, k3, k4⟩ := hW9; first | (go_simp; done) | (go_simp; with_reducible rfl))
  simp only [Act.put, List.getElem_toArray, List.getElem_cons_succ, List.getElem_cons_zero, List.setIfInBounds_toArray, List.set_cons_zero, List.set_cons_succ]
  refine goes_take0 (i := 2) (v := ?gw2) rfl (by kernel_rfl) (by kernel_rfl) (by kernel_rfl) rfl (fun _ _ _ h => h) (Or.inl ⟨by rfl, ?gx2⟩) (by assumption) ?gq2
  case gx2 => (intro W9 hW9; obtain ⟨k1, k2, k3, k4⟩ := hW9; first | (go_simp; done) | (go_simp; with_reducible rfl))
  simp only [Act.put, List.getElem_toArray, List.getElem_cons_succ, List.getElem_cons_zero, List.setIfInBounds_toArray, List.set_cons_zero, List.set_cons_succ]
  refine goes_take0 (i := 3) (v := ?gw3) rfl (by kernel_rfl) (by kernel_rfl) (by kernel_rfl) rfl (fun _ _ _ h => h) (Or.inl ⟨by rfl, ?gx3⟩) (by assumption) ?gq3
  case gx3 => (intro W9 hW9; obtain ⟨k1, k2, k3, k4⟩ := hW9; first | (go_simp; done) | (go_simp; with_reducible rfl))
  simp only [Act.put, List.getElem_toArray, List.getElem_cons_succ, List.getElem_cons_zero, List.setIfInBounds_toArray, List.set_cons_zero, List.set_cons_succ]
  refine goes_take0 (i := 4) (v := ?gw4) rfl (by kernel_rfl) (by kernel_rfl) (by kernel_rfl) rfl (fun _ _ _ h => h) (Or.inl ⟨by rfl, ?gx4⟩) (by assumption) ?gq4
  case gx4 => (intro W9 hW9; obtain ⟨k1, k2, k3, k4⟩ := hW9; first | (go_simp; done) | (go_simp; with_reducible rfl))
  simp only [Act.put, List.getElem_toArray, List.getElem_cons_succ, List.getElem_cons_zero, List.setIfInBounds_toArray, List.set_cons_zero, List.set_cons_succ]
  refine goes_take0 (i := 5) (v := ?gw5) rfl (by kernel_rfl) (by kernel_rfl) (by kernel_rfl) rfl (fun _ _ _ h => h) (Or.inl ⟨by rfl, ?gx5⟩) (by assumption) ?gq5
  case gx5 => (intro W9 hW9; obtain ⟨k1, k2, k3, k4⟩ := hW9; first | (go_simp; done) | (go_simp; with_reducible rfl))
  simp only [Act.put, List.getElem_toArray, List.getElem_cons_succ, List.getElem_cons_zero, List.setIfInBounds_toArray, List.set_cons_zero, List.set_cons_succ]
  refine goes_one (i := 6) (by kernel_rfl) rfl (fun K9 hK9 => ?_)
  go_simp
  with_reducible refine (HNX.out _ (Below.refl _ _).drew).mono ?_
  rintro e w5 ⟨rfl, hb5⟩
  obtain ⟨k1, k2, k3, k4⟩ := hHeld
  refine hK9.out _ _ (fun _ => ⟨cell_below hb5 k1, cell_below hb5 k2, cell_below hb5 k3, cell_below hb5 k4⟩) (fun hHeld => ?_)
  have hHeld := hHeld (by decide)
  clear hK9 K9 k1 k2 k3 k4
  refine goes_take0 (i := 7) (v := ?gw7) rfl (by kernel_rfl) (by kernel_rfl) (by kernel_rfl) rfl (fun _ _ _ h => h) (Or.inl ⟨by rfl, ?gx7⟩) (by assumption) ?gq7
  case gx7 => (intro W9 hW9; obtain ⟨k1, k2, k3, k4⟩ := hW9; first | (go_simp; done) | (go_simp; with_reducible rfl))
  simp only [Act.put, List.getElem_toArray, List.getElem_cons_succ, List.getElem_cons_zero, List.setIfInBounds_toArray, List.set_cons_zero, List.set_cons_succ]
  refine goes_done (by kernel_rfl) ?_ _
  go_wp2
  go_ret
  exact ⟨rfl, (Below.refl _ w).drew.trans hb5⟩
/-- Numbers as values. -/
def numV (l : List Int) : List Value := l.map (Value.int .i64)
theorem numV_len (l : List Int) : (numV l).length = l.length := List.length_map ..
theorem nums_row {w : World} {B : Nat} {v : Value} {l : List Int} (h : w.ownsRow B 3 1 v l.length (numV l)) : NumsAt w v l := by
  rcases h.2 with ⟨rfl, h1⟩ | ⟨g, cap, cur, rfl, _⟩
  · have : l = [] := List.eq_nil_of_length_eq_zero h1
    subst this; exact ⟨none, 0, rfl, fun i hi => by simp at hi⟩
  · exact ⟨_, cap, rfl, fun i hi => ⟨g, 0, rfl, by rw [Nat.zero_add, h.cellAt i (by omega)]; simp [numV, hi]⟩⟩
/-- Rows of numbers, each of its own, in a row. -/
structure Rows2 (w : World) (N : Nat) (v : Value) (vs : List Value) (L : List (List Int)) : Prop where
  len : vs.length = L.length
  own : w.ownsRow N 44 1 v L.length vs
  row : ∀ i (h : i < vs.length) (h' : i < L.length), w.ownsRow N 3 1 vs[i] L[i].length (numV L[i])
theorem own_below {w w' : World} {B n sz : Nat} {e : TypeId} {v : Value} {l : List Value} (h : w.ownsRow B e sz v n l) (hb : Below w.heap.size w w') : w'.ownsRow B e sz v n l :=
  row_keep h fun g _ _ hg => (hb.block g (lt_of_block hg)).trans hg
theorem Rows2.below {w w' : World} {N : Nat} {v : Value} {vs : List Value} {L : List (List Int)} (h : Rows2 w N v vs L) (hb : Below w.heap.size w w') : Rows2 w' N v vs L :=
  ⟨h.len, own_below h.own hb, fun i h1 h2 => own_below (h.row i h1 h2) hb⟩
theorem Rows2.nil (w : World) (N : Nat) : Rows2 w N (.slice none 0 0) [] [] := ⟨rfl, World.ownsRow_nil _ _ _ _, fun i h => by simp at h⟩
/-- A row of numbers stays when a row of slices grows. -/
theorem num_grown {w w7 w8 : World} {N n : Nat} {v u : Value} {vs : List Value} {l : List Int} (h : w.ownsRow N 3 1 u l.length (numV l)) (hv : w.ownsRow N 44 1 v n vs) (h7 : Below w.heap.size w w7) (h3 : w7.grownBy w8 v.ownBlock) : w8.ownsRow N 3 1 u l.length (numV l) :=
  row_keep h fun g cs hg hgc => by
    have hne : some g ≠ v.ownBlock := fun e => by
      obtain ⟨c2, h2⟩ := row_block hv e.symm
      rw [hgc] at h2
      injection h2 with h2
      injection h2 with _ h2 _
      exact absurd h2 (by decide)
    have h1 := (h7.block g (lt_of_block hgc)).trans hgc
    exact (h3.block g (lt_of_block h1) hne).trans h1
theorem Rows2.push {w w7 w8 : World} {N : Nat} {v u u' : Value} {vs : List Value} {L : List (List Int)} {l : List Int} (h : Rows2 w N v vs L) (hu : w.ownsRow N 3 1 u l.length (numV l)) (h7 : Below w.heap.size w w7) (h3 : w7.grownBy w8 v.ownBlock) (h2 : w8.ownsRow N 44 1 u' (L.length + 1) (vs ++ [u])) : Rows2 w8 N u' (vs ++ [u]) (L ++ [l]) := by
  refine ⟨by simp [h.len], by rw [List.length_append, List.length_singleton]; exact h2, fun i h1 h1' => ?_⟩
  by_cases e : i < vs.length
  · simp only [List.getElem_append_left e, List.getElem_append_left (show i < L.length by rw [← h.len]; exact e)]
    exact num_grown (h.row i e (by rw [← h.len]; exact e)) h.own h7 h3
  · obtain rfl : i = vs.length := by simp at h1; omega
    have e2 : (vs ++ [u])[vs.length] = u := by simp
    have e3 : (L ++ [l])[vs.length] = l := by simp [h.len]
    rw [e2, e3]
    exact num_grown hu h.own h7 h3
theorem Rows2.tab {w : World} {N : Nat} {v : Value} {vs : List Value} {L : List (List Int)} (h : Rows2 w N v vs L) : TabAt w v L := by
  have h0 := h.own
  rcases h0.2 with ⟨rfl, h1⟩ | ⟨g, cap, cur, rfl, _⟩
  · have : L = [] := List.eq_nil_of_length_eq_zero h1
    subst this; exact ⟨none, 0, rfl, fun i hi => by simp at hi⟩
  · refine ⟨_, cap, rfl, fun i hi => ⟨g, 0, vs[i]'(by rw [h.len]; exact hi), rfl, ?_, nums_row (h.row i (by rw [h.len]; exact hi) hi)⟩⟩
    rw [Nat.zero_add, h0.cellAt i (by omega)]
    exact List.getElem?_eq_getElem _
theorem range_snoc {α : Type} (g : Nat → α) (k : Nat) : (List.range (k + 1)).map g = (List.range k).map g ++ [g k] := by
  rw [List.range_succ, List.map_append]; rfl
set_option maxHeartbeats 4000000 in
theorem lint_any (n : Nat) (caps : Array Value) (g : Nat → Int) (w : World) (hn : n < 1000000) (p1 p2 p3 : Value) (hcap : caps = #[p1, p2, p3])
    (hcl : ∀ k, k < n → ∀ W, Below w.heap.size w W → Calls Try.prog 30 #[.int .i64 (k : Nat), p1, p2, p3] W fun e w' => e = .returned (.int .i64 (g k)) ∧ Below W.heap.size W w') :
    Calls Try.prog 29 #[.int .i64 n, .func (.func 30) #[] caps] w fun e w' => ∃ v, e = .returned v ∧ Hid (w'.ownsRow w.heap.size 3 1 v n (numV ((List.range n).map g))) ∧ Hid (Below w.heap.size w w') := by
  subst hcap
  obtain ⟨i0, hi, hz0, hz1, hz2⟩ := info_parts infoI
  have HI := Lib.hid (⟨hi, hz0, hz1, hz2⟩ : Try.prog.info? 3 = some i0 ∧ i0.zero = some (.int .i64 0) ∧ i0.size = 1 ∧ i0.bytes = 8)
  clear hi hz0 hz1 hz2
  obtain ⟨N, hN⟩ : ∃ N, w.heap.size = N := ⟨_, rfl⟩
  have HCL := Lib.hid hcl
  clear hcl
  have hNw : N ≤ w.heap.size := by omega
  rw [hN] at HCL ⊢
  clear hN
  go_enter Try.func29, Try.ntmps29
  go_wp2
  go_loopw [5, 6, 8] (fun u _ z wr => ∃ k : Nat, z = .int .i64 k ∧ k ≤ n ∧ N ≤ wr.heap.size ∧ Hid (wr.ownsRow N 3 1 u k (numV ((List.range k).map g))) ∧ Hid (Below N w wr)) (fun _ _ z _ => n - (intOf z).toNat)
  case atStart => exact ⟨0, rfl, Nat.zero_le _, hNw, Lib.hid (World.ownsRow_nil _ _ _ _), Lib.hid (Below.refl _ _)⟩
  case round =>
    clear hNw
    obtain ⟨k, rfl, hk, hNr, HR, HB⟩ := hrel
    by_cases hlt : k < n
    · have hd : decide ((k : Int) < n) = true := decide_eq_true (by omega)
      have HCK := Lib.hid (HCL.out k hlt wr HB.out)
      have HSN := Lib.hid (range_snoc g k)
      obtain ⟨a3, cp3, rfl⟩ := row_form HR.out
      obtain ⟨xs, hxs⟩ : ∃ xs, (List.range k).map g = xs := ⟨_, rfl⟩
      rw [hxs] at HR HSN
      clear hxs
      obtain ⟨x, hx⟩ : ∃ x, g k = x := ⟨_, rfl⟩
      rw [hx] at HCK HSN
      clear hx
      go_wp2_with (first
        | (go_at_call 30; (with_reducible refine HCK.out.mono ?_); rintro e w5 ⟨rfl, hb5⟩; have HB5 := Lib.hid hb5; have HR5 := Lib.hid (own_below HR.out hb5); have HRA := Lib.hid (HR5.out.alloc (.cells #[.int .i64 x] 3)); have hN5 : N ≤ w5.heap.size := Nat.le_trans hNr hb5.size; clear hb5)
        | (at_builtin; refine wpList_append_lies _ rfl _ _ 44 rfl N 3 i0 (.int .i64 0) 1 8 Try.underlying44 HI.out.1 HI.out.2.1 HI.out.2.2.1 HI.out.2.2.2 rfl (by decide) (.slice a3 k cp3) k (numV xs) rfl HRA.out ⟨w5.heap.size, 0, none⟩ 1 1 [.int .i64 x] rfl rfl (one_newsI (heap_alloc_new w5 _)) (by simp [Value.oneCell']) (by omega) (by unfold maxLen; omega) (by omega) (by simp; omega) (w5.heap.size + 1) (by simp) ?_; intro g2 cap2 w8 h2 h3 h4 h5; have HP1 := Lib.hid (push3 (HB.out.trans (HB5.out.mono hNr)) HR5.out (Nat.le_refl N) hN5 ((Below.refl _ _).alloc (Nat.le_refl _) _) h3); have hsz8 := h3.size; have HP3 := Lib.hid h2; clear h2 h3 h4 h5))
      exact ⟨⟨k + 1, rfl, hlt, by simp at hsz8; omega, Lib.hid (by rw [HSN.out]; unfold numV at *; rw [List.map_append]; exact HP3.out), HP1⟩, by simp only [intOf]; omega⟩
    · obtain rfl : k = n := by omega
      have hd : decide ((k : Int) < k) = false := by simp
      go_wp2
      exact bodyPost_ret (v := u5) (by simp [results, Try.results29, go_sem, *]) rfl ⟨u5, rfl, HR, HB⟩
end Go.Proofs.Ytiikmpgadmmjeaa
