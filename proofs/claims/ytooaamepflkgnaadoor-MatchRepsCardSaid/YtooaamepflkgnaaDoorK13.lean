/- Texts that a proof rests on: Contracts of slices.Insert at rows of runs. | Sets of places in memory; contracts of sort.Search, firstReaching, empty, last. | Contracts of slices.Insert at rows of runs: between. | Contracts of slices.Insert at rows of runs: between, without room. | Contracts of slices.Insert and slices.Replace at rows of runs. | The contract of slices.Replace at rows of runs. -/
import Derived.Test.YtooaamepflkgnaaDoorK12
import Derived.Test.YtooaamepflkgnaaDoorK11
import Derived.Shelf.RegionOpen
import Derived.Shelf.Spec.SlicesInsert
import Derived.StillTailTactics
set_option maxRecDepth 100000
namespace Go.Proofs.YtooaamepflkgnaaDoor
open Go.RowKit

theorem infoRun : (Tryd.prog.info? 75).map (fun i => (i.zero, i.size, i.bytes)) = some (some (.agg #[.int .i64 0, .int .i64 0]), 2, 16) := by kernel_rfl
theorem sizeRun : (Tryd.prog.info? 75).map (·.size) = some 2 := by kernel_rfl
theorem zeroRun (w : World) : (zeroValue 75).run Tryd.prog w = .ok (.agg #[.int .i64 0, .int .i64 0]) w := by kernel_rfl
theorem sizeOfRun (w : World) : (Go.sizeOf 75).run Tryd.prog w = .ok 2 w := by kernel_rfl
/-- What an insertion or a replacement leaves. -/
def Put (base : Nat) (v : Value) (n : Nat) (xs : List Value) (w : World) (e : Ending) (w' : World) : Prop :=
  ∃ v', e = .returned v' ∧ w'.ownsRow base 75 2 v' n xs ∧ w.grownBy w' v.ownBlock ∧ ∀ g, v'.ownBlock = some g → v.ownBlock = some g ∨ w.heap.size ≤ g
theorem take_all {xs : List Value} {n : Nat} (h : xs.length = n * 2) : xs.take (n * 2) = xs := List.take_of_length_le (by omega)
theorem drop_all {xs : List Value} {n : Nat} (h : xs.length = n * 2) : xs.drop (n * 2) = [] := List.drop_eq_nil_of_le (by omega)
theorem two_cells {w : World} {vb : Nat} {x y : Value} (hvb : w.heap[vb]? = some (.cells #[x, y] 75 (0, 0))) : ∀ j u, [x, y][j]? = some u → w.cell? ((⟨vb, 0, none⟩ : Addr).add j) = some u := by
  intro j u hj
  have := World.news_of_block hvb j u (by simpa using hj)
  exact this
set_option maxHeartbeats 4000000 in
/-- At the end. -/
theorem insert_end (base n : Nat) (v : Value) (xs : List Value) (vb : Nat) (x y : Value) (w : World) (hn : n < 1000000) (hown : w.ownsRow base 75 2 v n xs)
    (hvb : w.heap[vb]? = some (.cells #[x, y] 75 (0, 0))) (hx : x.oneCell' = true) (hy : y.oneCell' = true) (hbase : base ≤ w.heap.size) :
    Calls Tryd.prog 74 #[v, .int .i64 n, .slice (some ⟨vb, 0, none⟩) 1 1] w (Put base v (n + 1) (xs ++ [x, y]) w) := by
  obtain ⟨i0, hi, hz0, hz1, hz2⟩ := info_parts infoRun
  have hform : ∃ a c, v = .slice a n c ∧ n ≤ c ∧ c ≤ maxLen := by
    rcases hown.2 with ⟨rfl, rfl⟩ | ⟨g, cap, cur, rfl, _, _, h1, h2, _⟩
    · exact ⟨none, 0, rfl, Nat.le_refl _, by decide⟩
    · exact ⟨_, _, rfl, h1, h2⟩
  obtain ⟨a, c, rfl, hnc, hcm⟩ := hform
  have HO := Lib.hid hown
  clear hown
  unfold maxLen at hcm
  have HP : ∀ g cap w', w'.ownsRow base 75 2 (.slice (some ⟨g, 0, none⟩) (n + 1) cap) (n + 1) (xs ++ [x, y]) → w.grownBy w' (Value.slice a n c).ownBlock → ((Value.slice a n c).ownBlock = some g ∨ g = w.heap.size) → Put base (.slice a n c) (n + 1) (xs ++ [x, y]) w (.returned (.slice (some ⟨g, 0, none⟩) (n + 1) cap)) w' := fun g cap w' h1 h2 h3 =>
    ⟨_, rfl, h1, h2, fun g' e => by
      have : g' = g := by simpa [Value.ownBlock] using e.symm
      subst this
      rcases h3 with h | h
      · exact .inl h
      · exact .inr (by omega)⟩
  have HPH := Lib.hid HP
  clear HP
  go_enter Tryd.func74, Tryd.ntmps74
  go_wp2_with (at_builtin; refine wpList_append_lies _ rfl _ _ 59 rfl base 75 i0 (.agg #[.int .i64 0, .int .i64 0]) 2 16 Tryd.underlying59 hi hz0 hz1 hz2 rfl (by decide) _ n xs rfl HO.out ⟨vb, 0, none⟩ 1 1 [x, y] rfl rfl (two_cells hvb) (by simp [hx, hy]) (by omega) (by unfold maxLen; omega) (by omega) hbase w.heap.size rfl ?_; intro g cap w' h1 h2 h3 h4)
  all_goals (go_ret; first | exact HPH.out _ _ _ h1 h2 h3 | (have e : c = n := (by omega); subst e; exact HPH.out _ _ _ h1 h2 h3))
/-- Rows: what is put between. -/
theorem splice_two (A B Z : List Value) (x y : Value) (hZ : 2 ≤ Z.length) :
    (splice (splice (A ++ (B ++ Z)) (A.length + 2) B) A.length [x, y]).take (A.length + 2 + B.length) = A ++ ([x, y] ++ B) := by
  have e1 : (A ++ (B ++ Z)).take (A.length + 2) = A ++ (B ++ Z).take 2 := List.take_length_add_append 2
  obtain ⟨T, hT⟩ : ∃ T, T = (B ++ Z).take 2 := ⟨_, rfl⟩
  have hTl : T.length = 2 := by rw [hT, List.length_take, List.length_append]; omega
  obtain ⟨W, hW⟩ : ∃ W, W = (A ++ (B ++ Z)).drop (A.length + 2 + B.length) := ⟨_, rfl⟩
  have e2 : splice (A ++ (B ++ Z)) (A.length + 2) B = A ++ (T ++ (B ++ W)) := by
    unfold splice; rw [e1, ← hT, ← hW, List.append_assoc]
  have e3 : splice (A ++ (T ++ (B ++ W))) A.length [x, y] = A ++ ([x, y] ++ (B ++ W)) := by
    unfold splice
    rw [List.take_left]
    congr 2
    show (A ++ (T ++ (B ++ W))).drop (A.length + 2) = _
    rw [List.drop_length_add_append, ← hTl, List.drop_left]
  rw [e2, e3, Nat.add_assoc, List.take_length_add_append]
  congr 1
  show ([x, y] ++ (B ++ W)).take ([x, y].length + B.length) = _
  rw [List.take_length_add_append, List.take_left]
theorem grown_row_own {w' : World} {base g n cap : Nat} {cur xs : List Value} (hg : w'.heap[g]? = some (.cells cur.toArray 75 (0, 0))) (hb : base ≤ g) (hnc : n ≤ cap) (hcm : cap ≤ maxLen) (hl : cur.length = cap * 2) (ht : cur.take (n * 2) = xs) :
    w'.ownsRow base 75 2 (.slice (some ⟨g, 0, none⟩) n cap) n xs :=
  ⟨by rw [← ht, List.length_take]; omega, .inr ⟨g, cap, _, rfl, hb, hg, hnc, hcm, by simpa using hl, by simpa using ht⟩⟩
theorem frozen_row {w : World} {g j : Nat} {cur : Array Value} {t : TypeId} (h : w.heap[g]? = some (.cells cur t (0, 0))) : w.frozen? ⟨g, j, none⟩ = false := by simp [World.frozen?, h]
theorem shape_row {w : World} {g : Nat} {cur : Array Value} {t : TypeId} (h : w.heap[g]? = some (.cells cur t (0, 0))) : w.shape? g = some (t, cur.size) := by simp [World.shape?, h]
end Go.Proofs.YtooaamepflkgnaaDoor
set_option maxRecDepth 100000
namespace Go.Proofs.YtooaamepflkgnaaDoor
open Go.RowKit

/-- A slice reads as runs, which lie in no block of X. -/
def Rn (w : World) (X : Nat → Prop) (v : Value) (L : List (Int × Int)) : Prop :=
  (v = .slice none 0 0 ∧ L = []) ∨ ∃ b o c, v = .slice (some ⟨b, o, none⟩) L.length c ∧ L.length ≤ c ∧ (L ≠ [] → ¬ X b) ∧ ∀ i (h : i < L.length), w.cell? ⟨b, o + i * 2, none⟩ = some (.int .i64 L[i].1) ∧ w.cell? ⟨b, o + i * 2 + 1, none⟩ = some (.int .i64 L[i].2)
theorem ne_of_lt {L : List (Int × Int)} {i : Nat} (h : i < L.length) : L ≠ [] := by rintro rfl; simp at h
/-- What does not lie in X stays. -/
structure Out (X : Nat → Prop) (w w' : World) : Prop where
  os : w'.os = w.os
  tape : w'.tape = w.tape
  output : w'.output = w.output
  size : w.heap.size ≤ w'.heap.size
  block : ∀ k, k < w.heap.size → ¬ X k → w'.heap[k]? = w.heap[k]?
theorem Out.refl (X : Nat → Prop) (w : World) : Out X w w := ⟨rfl, rfl, rfl, Nat.le_refl _, fun _ _ _ => rfl⟩
theorem Out.trans {X : Nat → Prop} {a b c : World} (h : Out X a b) (k : Out X b c) : Out X a c :=
  ⟨k.os.trans h.os, k.tape.trans h.tape, k.output.trans h.output, Nat.le_trans h.size k.size, fun i hi hx => (k.block i (Nat.lt_of_lt_of_le hi h.size) hx).trans (h.block i hi hx)⟩
theorem Out.mono {X Y : Nat → Prop} {a b : World} (h : Out X a b) (hxy : ∀ k, k < a.heap.size → X k → Y k) : Out Y a b :=
  ⟨h.os, h.tape, h.output, h.size, fun i hi hy => h.block i hi fun hx => hy (hxy i hi hx)⟩
theorem Out.below {w w' : World} {X : Nat → Prop} (h : Below w.heap.size w w') : Out X w w' := ⟨h.os, h.tape, h.output, h.size, fun k hk _ => h.block k hk⟩
theorem Out.to_below {w w' : World} {X : Nat → Prop} {n : Nat} (h : Out X w w') (hX : ∀ k, k < w.heap.size → X k → n ≤ k) (hn : n ≤ w.heap.size) : Below n w w' :=
  ⟨h.os, h.tape, h.output, h.size, fun k hk => h.block k (by omega) fun hx => by have := hX k (by omega) hx; omega⟩
theorem Out.grown {w w' : World} {x : Option Nat} {X : Nat → Prop} (h : w.grownBy w' x) (hx : ∀ b, x = some b → X b) : Out X w w' :=
  ⟨h.os, h.tape, h.output, h.size, fun k hk hn => h.block k hk fun e => hn (hx k e.symm)⟩
theorem Out.set {X : Nat → Prop} {b : Nat} (w : World) (j : Nat) (v : Value) (hb : X b) : Out X w (w.setCell ⟨b, j, none⟩ v) := by
  have h : Below b w (w.setCell ⟨b, j, none⟩ v) := (Below.refl _ _).setCell (p := ⟨b, j, none⟩) (Nat.le_refl _) v
  exact ⟨h.os, h.tape, h.output, h.size, fun k _ hn => Below.heap_setCell _ _ _ _ (by rintro rfl; exact hn hb)⟩
theorem Out.cell {X : Nat → Prop} {w w' : World} (h : Out X w w') {a : Addr} {v : Value} (hc : w.cell? a = some v) (hn : ¬ X a.block) : w'.cell? a = some v :=
  (World.cell?_of_block (h.block a.block (cell_lt hc) hn)).trans hc
theorem Rn.nil (w : World) (X : Nat → Prop) : Rn w X (.slice none 0 0) [] := .inl ⟨rfl, rfl⟩
theorem Rn.out {w w' : World} {X Y : Nat → Prop} {v : Value} {L : List (Int × Int)} (h : Rn w X v L) (ho : Out Y w w') (hxy : ∀ k, k < w.heap.size → Y k → X k) : Rn w' X v L := by
  rcases h with h | ⟨b, o, c, e, hc, hn, hr⟩
  · exact .inl h
  · exact .inr ⟨b, o, c, e, hc, hn, fun i hi => ⟨ho.cell (hr i hi).1 fun hy => hn (ne_of_lt hi) (hxy _ (cell_lt (hr i hi).1) hy), ho.cell (hr i hi).2 fun hy => hn (ne_of_lt hi) (hxy _ (cell_lt (hr i hi).1) hy)⟩⟩
theorem Rn.below {w w' : World} {X : Nat → Prop} {v : Value} {L : List (Int × Int)} (h : Rn w X v L) (hb : Below w.heap.size w w') : Rn w' X v L :=
  h.out (Out.below (X := fun _ => False) hb) fun _ _ h => h.elim
theorem Rn.weak {w : World} {X Y : Nat → Prop} {v : Value} {L : List (Int × Int)} (h : Rn w X v L) (hxy : ∀ k, k < w.heap.size → Y k → X k) : Rn w Y v L := by
  rcases h with h | ⟨b, o, c, e, hc, hn, hr⟩
  · exact .inl h
  · exact .inr ⟨b, o, c, e, hc, fun h0 hy => hn h0 (hxy _ (cell_lt (hr 0 (List.length_pos_iff.2 h0)).1) hy), hr⟩
theorem Rn.len {w : World} {X : Nat → Prop} {v : Value} {L : List (Int × Int)} (h : Rn w X v L) : ∃ a c, v = .slice a L.length c := by
  rcases h with ⟨rfl, rfl⟩ | ⟨b, o, c, rfl, _⟩
  · exact ⟨_, _, rfl⟩
  · exact ⟨_, _, rfl⟩
theorem Rn.row {w : World} {X : Nat → Prop} {v : Value} {L : List (Int × Int)} (h : Rn w X v L) (h0 : 0 < L.length) : ∃ b o c, v = .slice (some ⟨b, o, none⟩) L.length c ∧ L.length ≤ c ∧ ¬ X b ∧ ∀ i (h : i < L.length), w.cell? ⟨b, o + i * 2, none⟩ = some (.int .i64 L[i].1) ∧ w.cell? ⟨b, o + i * 2 + 1, none⟩ = some (.int .i64 L[i].2) := by
  rcases h with ⟨_, rfl⟩ | ⟨b, o, c, e, hc, hn, hr⟩
  · simp at h0
  · exact ⟨b, o, c, e, hc, hn (ne_of_lt h0), hr⟩
theorem Rn.drew {w : World} {X : Nat → Prop} {v : Value} {L : List (Int × Int)} (h : Rn w X v L) : Rn w.drew X v L := h
/-- Runs, cell by cell. -/
def flatR (L : List (Int × Int)) : List Value := L.flatMap (fun r => [Value.int .i64 r.1, Value.int .i64 r.2])
theorem flatR_length (L : List (Int × Int)) : (flatR L).length = L.length * 2 := by
  induction L with
  | nil => rfl
  | cons q l ih => simp [flatR] at ih ⊢; omega
theorem flatR_append (A B : List (Int × Int)) : flatR (A ++ B) = flatR A ++ flatR B := by simp [flatR]
theorem flatR_one (L : List (Int × Int)) : ∀ v ∈ flatR L, v.oneCell' = true := by
  intro v hv
  simp only [flatR, List.mem_flatMap] at hv
  obtain ⟨r, _, hv⟩ := hv
  simp at hv
  rcases hv with rfl | rfl <;> rfl
theorem flatR_take (L : List (Int × Int)) (k : Nat) : (flatR L).take (k * 2) = flatR (L.take k) := by
  induction L generalizing k with
  | nil => simp [flatR]
  | cons r L ih =>
    cases k with
    | zero => simp [flatR]
    | succ k =>
      have : flatR (r :: L) = [Value.int .i64 r.1, Value.int .i64 r.2] ++ flatR L := rfl
      rw [this, List.take_succ_cons, show flatR (r :: L.take k) = [Value.int .i64 r.1, Value.int .i64 r.2] ++ flatR (L.take k) from rfl, show (k + 1) * 2 = [Value.int .i64 r.1, Value.int .i64 r.2].length + k * 2 by simp; omega, List.take_length_add_append, ih]
theorem flatR_drop (L : List (Int × Int)) (k : Nat) : (flatR L).drop (k * 2) = flatR (L.drop k) := by
  induction L generalizing k with
  | nil => simp [flatR]
  | cons r L ih =>
    cases k with
    | zero => simp
    | succ k =>
      have : flatR (r :: L) = [Value.int .i64 r.1, Value.int .i64 r.2] ++ flatR L := rfl
      rw [this, List.drop_succ_cons, show (k + 1) * 2 = [Value.int .i64 r.1, Value.int .i64 r.2].length + k * 2 by simp; omega, List.drop_length_add_append, ih]
theorem flatR_at (L : List (Int × Int)) : ∀ i (h : i < L.length), (flatR L)[i * 2]? = some (.int .i64 L[i].1) ∧ (flatR L)[i * 2 + 1]? = some (.int .i64 L[i].2) := by
  induction L with
  | nil => intro i h; simp at h
  | cons r L ih =>
    intro i h
    have e : flatR (r :: L) = [Value.int .i64 r.1, Value.int .i64 r.2] ++ flatR L := rfl
    cases i with
    | zero => rw [e]; simp
    | succ i =>
      have := ih i (by simpa using h)
      rw [e, List.getElem?_append_right (by simp; omega), List.getElem?_append_right (by simp; omega)]
      simp only [List.length_cons, List.length_nil, List.getElem_cons_succ]
      rw [show (i + 1) * 2 - (0 + 1 + 1) = i * 2 by omega, show (i + 1) * 2 + 1 - (0 + 1 + 1) = i * 2 + 1 by omega]
      exact this
/-- A row of runs of one's own. -/
def RRow (w : World) (base : Nat) (v : Value) (L : List (Int × Int)) : Prop := w.ownsRow base 75 2 v L.length (flatR L)
theorem RRow.rn {w : World} {base : Nat} {v : Value} {L : List (Int × Int)} (h : RRow w base v L) : Rn w (fun k => k < base) v L := by
  rcases h.2 with ⟨rfl, h0⟩ | ⟨g, cap, cur, rfl, hb, hg, hnc, _⟩
  · exact .inl ⟨rfl, List.length_eq_zero_iff.1 h0⟩
  · refine .inr ⟨g, 0, cap, rfl, hnc, fun _ => by omega, fun i hi => ?_⟩
    have := flatR_at L i hi
    have h1 := World.ownsRow.cells h (g := g) rfl (i * 2) _ this.1
    have h2 := World.ownsRow.cells h (g := g) rfl (i * 2 + 1) _ this.2
    rw [Addr.add_lit] at h1 h2
    rw [Nat.add_assoc]
    exact ⟨h1, h2⟩
theorem RRow.nil (w : World) (base : Nat) : RRow w base (.slice none 0 0) [] := World.ownsRow_nil _ _ _ _
theorem RRow.form {w : World} {base : Nat} {v : Value} {L : List (Int × Int)} (h : RRow w base v L) : ∃ a c, v = .slice a L.length c ∧ L.length ≤ c := by
  rcases h.2 with ⟨rfl, h0⟩ | ⟨g, cap, cur, rfl, _, _, hc, _⟩
  · exact ⟨_, _, by rw [h0], by omega⟩
  · exact ⟨_, _, rfl, hc⟩
/-- sort.Search over a function that answers p, false up to k, true from there on. -/
theorem half_lt {lo hi : Nat} (h : lo < hi) : lo ≤ (lo + hi) / 2 ∧ (lo + hi) / 2 < hi := by omega
set_option maxHeartbeats 2000000 in
theorem search_any (n k : Nat) (cb : Array Value) (p : Nat → Bool) (w : World) (hn : n < 1000000) (hk : k ≤ n) (h1 : ∀ t, t < k → p t = false) (h2 : ∀ t, k ≤ t → t < n → p t = true)
    (hf : ∀ W i, Below w.heap.size w W → i < n → Calls Tryd.prog 73 (#[.int .i64 i] ++ cb) W fun e W' => e = .returned (.bool (p i)) ∧ Below W.heap.size W W') :
    Calls Tryd.prog 72 #[.int .i64 n, .func (.func 73) #[] cb] w fun e w' => e = .returned (.int .i64 k) ∧ Below w.heap.size w w' := by
  have HF := Lib.hid hf
  have H1 := Lib.hid h1
  have H2 := Lib.hid h2
  clear hf h1 h2
  have mixed : Tryd.prog.follows .mixedOrders = true := by kernel_rfl
  go_enter Tryd.func72, Tryd.ntmps72
  go_wp2
  go_loopw [5, 6] (fun a b wr => ∃ lo hi : Nat, a = .int .i64 lo ∧ b = .int .i64 hi ∧ lo ≤ k ∧ k ≤ hi ∧ hi ≤ n ∧ Below w.heap.size w wr) (fun a b _ => (intOf b).toNat - (intOf a).toNat)
  case atStart => exact ⟨0, n, rfl, rfl, Nat.zero_le _, hk, Nat.le_refl _, Below.refl _ _⟩
  case round =>
    obtain ⟨lo, hi, rfl, rfl, hlk, hkh, hhn, hb⟩ := hrel
    by_cases hlt : lo < hi
    · obtain ⟨m, hm⟩ : ∃ m, m = (lo + hi) / 2 := ⟨_, rfl⟩
      have hm1 : lo ≤ m ∧ m < hi := by rw [hm]; exact half_lt hlt
      have hmi : ((lo : Int) + (hi : Int)) / 2 = (m : Int) := by omega
      clear hm
      rcases Nat.lt_or_ge m k with hmk | hmk
      · have hp := H1.out m hmk
        go_wp2_with (go_at_call 73; refine (HF.out _ m hb (by omega)).mono ?_; rw [hp]; rintro e w2 ⟨rfl, hb2⟩)
        go_roundw
        case rel => exact ⟨m + 1, hi, num_succ m, rfl, by omega, hkh, hhn, hb.trans (hb2.mono hb.size)⟩
        case measure => simp [intOf]; omega
      · have hp := H2.out m hmk (by omega)
        go_wp2_with (go_at_call 73; refine (HF.out _ m hb (by omega)).mono ?_; rw [hp]; rintro e w2 ⟨rfl, hb2⟩)
        go_roundw
        case rel => exact ⟨lo, m, rfl, rfl, hlk, hmk, by omega, hb.trans (hb2.mono hb.size)⟩
        case measure => simp [intOf]; omega
    · obtain rfl : lo = k := by omega
      go_wp2
      go_ret
      exact ⟨rfl, hb⟩
end Go.Proofs.YtooaamepflkgnaaDoor
set_option maxRecDepth 100000
namespace Go.Proofs.YtooaamepflkgnaaDoor
open Go.RowKit

set_option maxHeartbeats 4000000 in
/-- Between, with room. -/
theorem insert_room (base n i g cap : Nat) (xs : List Value) (cur : List Value) (vb : Nat) (x y : Value) (w : World) (hi : i < n) (hn : n < 1000000) (hxl : xs.length = n * 2) (hbg : base ≤ g)
    (hg : w.heap[g]? = some (.cells cur.toArray 75 (0, 0))) (hnc : n + 1 ≤ cap) (hcm : cap ≤ maxLen) (hcl : cur.length = cap * 2) (hct : cur.take (n * 2) = xs)
    (hvb : w.heap[vb]? = some (.cells #[x, y] 75 (0, 0))) (hne : vb ≠ g) (hx : x.oneCell' = true) (hy : y.oneCell' = true) (hxs : ∀ v ∈ xs, v.oneCell' = true) :
    Calls Tryd.prog 74 #[.slice (some ⟨g, 0, none⟩) n cap, .int .i64 i, .slice (some ⟨vb, 0, none⟩) 1 1] w (Put base (.slice (some ⟨g, 0, none⟩) n cap) (n + 1) (xs.take (i * 2) ++ ([x, y] ++ xs.drop (i * 2))) w) := by
  have hcm' := hcm
  unfold maxLen at hcm'
  have hov : ∀ o lb cb, (callFunc 75 #[.slice (some ⟨vb, 0, none⟩) 1 1, .slice (some ⟨g, o, none⟩) lb cb]).run Tryd.prog w = .ok (.value (.bool false)) w := fun o lb cb => by
    rw [run_callFunc_extern Tryd.func75 (by kernel_rfl) (by kernel_rfl) (by kernel_rfl) (e := Extern.SlicesOverlaps.overlaps #[59, 59] #[4]) (by kernel_rfl),
      Lib.run_overlaps_apart w 59 4 75 Tryd.underlying59 2 sizeOfRun ⟨vb, 0, none⟩ ⟨g, o, none⟩ 1 1 lb cb hne _ _ _ _ (shape_row hvb) (shape_row hg) (by simp [hcl]; omega) (frozen_row hvb) (frozen_row hvb)]
    rfl
  have hz1 : ¬ ((i : Int) = (n : Int)) := by omega
  have hw1 : IntKind.i64.wrap ((i : Int) + 1) = (i : Int) + 1 := by rw [IntKind.wrap_i64]; omega
  have hb1 : (0 : Int) ≤ (i : Int) + 1 := by omega
  have hin : i ≤ n := by omega
  have htn : ((i : Int) + 1).toNat = i + 1 := by omega
  have hb2 : ¬ (cap = i + 1) := by omega
  have hb3 : (i : Int) ≤ (n : Int) + 1 := by omega
  have hb4 : ¬ (cap = i) := by omega
  obtain ⟨A, hA⟩ : ∃ A, A = xs.take (i * 2) := ⟨_, rfl⟩
  obtain ⟨B, hB⟩ : ∃ B, B = xs.drop (i * 2) := ⟨_, rfl⟩
  obtain ⟨Z, hZ⟩ : ∃ Z, Z = cur.drop (n * 2) := ⟨_, rfl⟩
  have hAB : A ++ B = xs := by rw [hA, hB, List.take_append_drop]
  have hAl : A.length = i * 2 := by rw [hA, List.length_take]; omega
  have hBl : B.length = (n - i) * 2 := by rw [hB, List.length_drop]; omega
  have hZl : Z.length = (cap - n) * 2 := by rw [hZ, List.length_drop]; omega
  have hcur : cur = A ++ (B ++ Z) := by rw [← List.append_assoc, hAB, ← hct, hZ, List.take_append_drop]
  have hB1 : ∀ v ∈ B, v.oneCell' = true := fun v hv => hxs v (by rw [← hAB]; exact List.mem_append_right _ hv)
  have hBs : ∀ j v, B[j]? = some v → w.cell? ((⟨g, i * 2, none⟩ : Addr).add j) = some v := fun j v hj => by
    rw [Addr.add_lit, cell_of_row w g _ _ _ _ hg]
    have hjl : j < B.length := (List.getElem?_eq_some_iff.1 hj).1
    simp only [List.getElem?_toArray]
    rw [hcur, List.getElem?_append_right (by omega), hAl, Nat.add_sub_cancel_left, List.getElem?_append_left hjl]
    exact hj
  rw [← hA, ← hB]
  have HA := Lib.hid hAl
  have HB := Lib.hid hBl
  have HZ := Lib.hid hZl
  have HC := Lib.hid hcur
  clear hAl hBl hZl hA hB hZ hAB
  have hvl : vb < w.heap.size := lt_of_block hvb
  have mixed : Tryd.prog.follows .mixedOrders = true := by kernel_rfl
  go_enter Tryd.func74, Tryd.ntmps74
  go_wp2_with (simp only [hov])
  go_region_law_o (refine step_copy2 rfl _ _ 59 59 rfl 75 Tryd.underlying59 sizeRun (some ⟨g, (i + 1) * 2, none⟩) (some ⟨g, i * 2, none⟩) (n - i) (cap - (i + 1)) (n + 1 - i) (cap - i) (by simp [Act.eval, Act.put]) (by simp [Act.eval, Act.put]) g ((i + 1) * 2) cur _ hg B (by rw [HB.out]; simp only [Nat.min_def]; split <;> omega) (fun _ => ⟨rfl, _, rfl, hBs⟩) (by rw [HB.out, hcl]; omega) hB1 w (grown_drew (grown_id w _)) ?_; intro w1 hg1 hb1)
  have hvb1 : w1.heap[vb]? = some (.cells #[x, y] 75 (0, 0)) := (hb1.block vb hvl (by simp; exact hne)).trans hvb
  have hl1 : (splice cur ((i + 1) * 2) B).length = cap * 2 := (length_splice _ _ _ (by rw [HB.out, hcl]; omega)).trans hcl
  obtain ⟨w2, hrun2, hg2, hb2⟩ := run_copy2 (P := Tryd.prog) (w := w1) (dT := 59) (sT := 59) (ty := 3) Tryd.underlying59 sizeRun (some ⟨g, i * 2, none⟩) (some ⟨vb, 0, none⟩) (n + 1 - i) (cap - i) 1 1 g (i * 2) (splice cur ((i + 1) * 2) B) _ hg1.out [x, y] (by simp only [Nat.min_def, List.length_cons, List.length_nil]; split <;> omega) (fun _ => ⟨rfl, _, rfl, two_cells hvb1⟩) (by rw [hl1]; simp; omega) (by simp [hx, hy]) w hb1
  go_wp2
  go_ret
  refine ⟨_, rfl, grown_row_own hg2.out hbg hnc hcm ((length_splice _ _ _ (by rw [hl1]; simp; omega)).trans hl1) ?_, hb2, fun g' e => .inl e⟩
  have h := splice_two A B Z x y (by rw [HZ.out]; omega)
  rw [HA.out, HB.out] at h
  rw [HC.out, show (i + 1) * 2 = i * 2 + 2 by omega, show (n + 1) * 2 = i * 2 + 2 + (n - i) * 2 by omega]
  exact h
end Go.Proofs.YtooaamepflkgnaaDoor
set_option maxRecDepth 100000
namespace Go.Proofs.YtooaamepflkgnaaDoor
open Go.RowKit

theorem splice_grow (A B Z : List Value) (x y : Value) (_ : 2 + B.length ≤ Z.length) :
    (splice (splice (A ++ Z) A.length [x, y]) (A.length + 2) B).take (A.length + 2 + B.length) = A ++ ([x, y] ++ B) := by
  have e1 : splice (A ++ Z) A.length [x, y] = (A ++ [x, y]) ++ Z.drop 2 := by
    unfold splice
    rw [List.take_left, List.append_assoc]
    congr 2
    show (A ++ Z).drop (A.length + 2) = _
    rw [List.drop_length_add_append]
  have l1 : (A ++ [x, y]).length = A.length + 2 := by simp
  have e2 : splice ((A ++ [x, y]) ++ Z.drop 2) (A.length + 2) B = (A ++ [x, y]) ++ (B ++ ((A ++ [x, y]) ++ Z.drop 2).drop (A.length + 2 + B.length)) := by
    unfold splice
    rw [← l1, List.take_left]
  rw [e1, e2, ← l1, List.take_length_add_append, List.take_left, List.append_assoc]
theorem grown_any {w w' : World} {x : Option Nat} (h : w.grownBy w' (some w.heap.size)) : w.grownBy w' x := ⟨h.os, h.tape, h.output, h.size, fun k hk _ => h.block k hk (fun e => by cases e; omega)⟩
set_option maxHeartbeats 4000000 in
/-- Between, without room. -/
theorem insert_grow (base n i g : Nat) (xs : List Value) (cur : List Value) (vb : Nat) (x y : Value) (w : World) (hi : i < n) (hn : n < 1000000) (hxl : xs.length = n * 2) (hbase : base ≤ w.heap.size)
    (hg : w.heap[g]? = some (.cells cur.toArray 75 (0, 0))) (hct : cur.take (n * 2) = xs)
    (hvb : w.heap[vb]? = some (.cells #[x, y] 75 (0, 0))) (hx : x.oneCell' = true) (hy : y.oneCell' = true) (hxs : ∀ v ∈ xs, v.oneCell' = true) :
    Calls Tryd.prog 74 #[.slice (some ⟨g, 0, none⟩) n n, .int .i64 i, .slice (some ⟨vb, 0, none⟩) 1 1] w (Put base (.slice (some ⟨g, 0, none⟩) n n) (n + 1) (xs.take (i * 2) ++ ([x, y] ++ xs.drop (i * 2))) w) := by
  obtain ⟨i0, hi0, hz0, hz1, hz2⟩ := info_parts infoRun
  have hlt : g < w.heap.size := lt_of_block hg
  have hvl : vb < w.heap.size := lt_of_block hvb
  obtain ⟨A, hA⟩ : ∃ A, A = xs.take (i * 2) := ⟨_, rfl⟩
  obtain ⟨B, hB⟩ : ∃ B, B = xs.drop (i * 2) := ⟨_, rfl⟩
  have hAB : A ++ B = xs := by rw [hA, hB, List.take_append_drop]
  have hAl : A.length = i * 2 := by rw [hA, List.length_take]; omega
  have hBl : B.length = (n - i) * 2 := by rw [hB, List.length_drop]; omega
  have hB1 : ∀ v ∈ B, v.oneCell' = true := fun v hv => hxs v (by rw [← hAB]; exact List.mem_append_right _ hv)
  have hall : ∀ j v, xs[j]? = some v → w.cell? ⟨g, j, none⟩ = some v := fun j v hj => by
    rw [cell_of_row w g _ _ _ _ hg]
    rw [← hct, List.getElem?_take] at hj
    split at hj
    · simpa using hj
    · cases hj
  have hAs : ∀ j v, A[j]? = some v → w.cell? ((⟨g, 0, none⟩ : Addr).add j) = some v := fun j v hj => by
    rw [Addr.add_lit, Nat.zero_add]
    refine hall j v ?_
    rw [← hAB, List.getElem?_append_left (List.getElem?_eq_some_iff.1 hj).1]; exact hj
  have hBs : ∀ j v, B[j]? = some v → w.cell? ((⟨g, i * 2, none⟩ : Addr).add j) = some v := fun j v hj => by
    rw [Addr.add_lit]
    refine hall _ v ?_
    rw [← hAB, List.getElem?_append_right (by omega), hAl, Nat.add_sub_cancel_left]; exact hj
  rw [← hA, ← hB]
  have hold : (Builtin.firstCells i0.size i (.slice (some ⟨g, 0, none⟩) i n)).run Tryd.prog w.drew = .ok A.toArray w.drew := by
    rw [hz1]
    exact run_firstCells_some w.drew 2 i ⟨g, 0, none⟩ i n A hAl hAs
  have hkk : (n : Int) + 1 - (i : Int) = ((n + 1 - i : Nat) : Int) := by omega
  have hik : i + (n + 1 - i) = n + 1 := by omega
  obtain ⟨G, hG⟩ : ∃ G, G = grownCap w (n + 1) n 75 := ⟨_, rfl⟩
  obtain ⟨ROW, hROW⟩ : ∃ ROW : Array Value, ROW = A.toArray ++ Builtin.zeroCells (Value.agg #[.int .i64 0, .int .i64 0]).cells (n + 1 - i) ++ Builtin.zeroCells (Value.agg #[.int .i64 0, .int .i64 0]).cells (G - (n + 1)) := ⟨_, rfl⟩
  obtain ⟨W1, hW1⟩ : ∃ W1, W1 = w.drew.alloc (.cells ROW 75) := ⟨_, rfl⟩
  have hrz : ∀ ty, (Builtin.append_ #[59, 3] ty #[.slice (some ⟨g, 0, none⟩) i n,   .int .i64 ((n + 1 - i : Nat) : Int)]).run Tryd.prog w = .ok (.slice (some ⟨w.heap.size, 0, none⟩) (n + 1) G) W1 := fun ty => by
    have h := Lib.run_append_grow_zeros w 59 3 ty 75 i0 _ .i64 .i64 Tryd.underlying59 Tryd.underlying3 hi0 hz0 (some ⟨g, 0, none⟩) i n A hold (n + 1 - i) (by omega) (by omega) (by omega) (by omega) (by rw [hz2]; omega) (by rw [hz2, hik]; exact growslice_fits (by omega) (by omega))
    rw [hik, ← hG] at h
    rw [hW1, hROW]
    exact h
  have hGn : n + 1 ≤ G := by rw [hG]; exact grownCap_ge w _ _ _
  have hGm : G ≤ maxLen := by rw [hG]; exact grownCap_le_maxLen w (n + 1) n _ (by unfold maxLen; omega)
  have hRl : ROW.size = G * 2 := by
    rw [hROW]
    simp only [Array.size_append, List.size_toArray, size_zeroCells, hAl]
    have : (Value.agg #[Value.int .i64 0, Value.int .i64 0]).cells.size = 2 := rfl
    rw [this]
    omega
  obtain ⟨Z, hZ⟩ : ∃ Z, ROW.toList = A ++ Z := ⟨_, by rw [hROW]; simp only [Array.toList_append, List.append_assoc]; rfl⟩
  have hZl : Z.length = (G - i) * 2 := by
    have := congrArg List.length hZ
    rw [List.length_append, Array.length_toList, hRl, hAl] at this
    omega
  have hgN : W1.heap[w.heap.size]? = some (.cells (A ++ Z).toArray 75 (0, 0)) := by
    rw [hW1, ← hZ]
    exact heap_alloc_new w.drew _
  have hbN : w.grownBy W1 (some w.heap.size) := by
    rw [hW1]
    exact World.grownBy_alloc w.drew _ _ |> fun h => ⟨h.os, h.tape, h.output, h.size, h.block⟩
  have hvbN : W1.heap[vb]? = some (.cells #[x, y] 75 (0, 0)) := (hbN.block vb hvl (by simp; omega)).trans hvb
  have hlA : (A ++ Z).length = G * 2 := by rw [List.length_append, hAl, hZl]; omega
  obtain ⟨w2, hrun2, hg2, hb2⟩ := run_copy2 (P := Tryd.prog) (w := W1) (dT := 59) (sT := 59) (ty := 3) Tryd.underlying59 sizeRun (some ⟨w.heap.size, i * 2, none⟩) (some ⟨vb, 0, none⟩) (n + 1 - i) (G - i) 1 1 w.heap.size (i * 2) (A ++ Z) _ hgN [x, y] (by simp only [Nat.min_def, List.length_cons, List.length_nil]; split <;> omega) (fun _ => ⟨rfl, _, rfl, two_cells hvbN⟩) (by rw [hlA]; simp; omega) (by simp [hx, hy]) w hbN
  have hl2 : (splice (A ++ Z) (i * 2) [x, y]).length = G * 2 := (length_splice _ _ _ (by rw [hlA]; simp; omega)).trans hlA
  have hBs2 : ∀ j v, B[j]? = some v → w2.cell? ((⟨w.heap.size - (w.heap.size - g), i * 2, none⟩ : Addr).add j) = some v := fun j v hj => by
    rw [show w.heap.size - (w.heap.size - g) = g by omega]
    refine hb2.cell (hBs j v hj) ?_
    rw [Addr.add_lit]; simp; omega
  rw [show w.heap.size - (w.heap.size - g) = g by omega] at hBs2
  clear hG hW1 hROW hRl hZ hAB hAs hBs hall hgN hbN hvbN hold hA hB
  have HA := Lib.hid hAl
  have HB := Lib.hid hBl
  have HZ := Lib.hid hZl
  have HL2 := Lib.hid hl2
  clear hAl hBl hZl hl2 hlA
  unfold maxLen at hGm
  have hz1 : ¬ ((i : Int) = (n : Int)) := by omega
  have hz3 : (n : Int) < (n : Int) + 1 := by omega
  have hw1 : IntKind.i64.wrap ((i : Int) + 1) = (i : Int) + 1 := by rw [IntKind.wrap_i64]; omega
  have hb1 : (0 : Int) ≤ (i : Int) + 1 := by omega
  have hin : i ≤ n := by omega
  have htn : ((i : Int) + 1).toNat = i + 1 := by omega
  have hb3 : (i : Int) ≤ (n : Int) + 1 := by omega
  have hb4 : ¬ (n = i) := by omega
  have hGi : ¬ (G = i) := by omega
  have hGim : ¬ (G = i + 1) := by omega
  have mixed : Tryd.prog.follows .mixedOrders = true := by kernel_rfl
  go_enter Tryd.func74, Tryd.ntmps74
  go_wp2_with (at_builtin; refine Lib.wpList_append_run _ rfl _ _ _ _ rfl _ _ rfl rfl _ _ (hrz _) ?_)
  go_region_law_o (refine step_copy2 rfl _ _ 59 59 rfl 75 Tryd.underlying59 sizeRun (some ⟨w.heap.size, (i + 1) * 2, none⟩) (some ⟨g, i * 2, none⟩) (n + 1 - (i + 1)) (G - (i + 1)) (n - i) (n - i) (by simp [Act.eval, Act.put]) (by simp [Act.eval, Act.put]) w.heap.size ((i + 1) * 2) (splice (A ++ Z) (i * 2) [x, y]) _ hg2.out B (by rw [HB.out]; simp only [Nat.min_def]; split <;> omega) (fun _ => ⟨rfl, _, rfl, hBs2⟩) (by rw [HB.out, HL2.out]; omega) hB1 w (grown_drew hb2) ?_; intro w3 hg3 hb3)
  go_wp2
  go_ret
  refine ⟨_, rfl, grown_row_own hg3.out hbase hGn (by unfold maxLen; exact hGm) ((length_splice _ _ _ (by rw [HB.out, HL2.out]; omega)).trans HL2.out) ?_, grown_any hb3, fun g' e => .inr (by simp [Value.ownBlock] at e; omega)⟩
  have h := splice_grow A B Z x y (by rw [HZ.out, HB.out]; omega)
  rw [HA.out, HB.out] at h
  rw [show (i + 1) * 2 = i * 2 + 2 by omega, show (n + 1) * 2 = i * 2 + 2 + (n - i) * 2 by omega]
  exact h
end Go.Proofs.YtooaamepflkgnaaDoor
set_option maxRecDepth 100000
namespace Go.Proofs.YtooaamepflkgnaaDoor
open Go.RowKit

theorem insert_any (base n i : Nat) (v : Value) (xs : List Value) (vb : Nat) (x y : Value) (w : World) (hi : i ≤ n) (hn : n < 1000000) (hown : w.ownsRow base 75 2 v n xs)
    (hvb : w.heap[vb]? = some (.cells #[x, y] 75 (0, 0))) (hne : v.ownBlock ≠ some vb) (hx : x.oneCell' = true) (hy : y.oneCell' = true) (hxs : ∀ v ∈ xs, v.oneCell' = true) (hbase : base ≤ w.heap.size) :
    Calls Tryd.prog 74 #[v, .int .i64 i, .slice (some ⟨vb, 0, none⟩) 1 1] w (Put base v (n + 1) (xs.take (i * 2) ++ ([x, y] ++ xs.drop (i * 2))) w) := by
  have hxl := hown.1
  rcases Nat.lt_or_ge i n with h | h
  · rcases hown.2 with ⟨_, h0⟩ | ⟨g, cap, cur, rfl, hbg, hg, hnc, hcm, hcs, htake⟩
    · omega
    · have hgv : g ≠ vb := fun e => hne (by simp [Value.ownBlock, e])
      have hg' : w.heap[g]? = some (.cells cur.toList.toArray 75 (0, 0)) := by simpa using hg
      rcases Nat.lt_or_ge n cap with hc | hc
      · exact insert_room base n i g cap xs cur.toList vb x y w h hn hxl hbg hg' hc hcm (by simpa using hcs) htake hvb (fun e => hgv e.symm) hx hy hxs
      · obtain rfl : cap = n := by omega
        exact insert_grow base cap i g xs cur.toList vb x y w h hn hxl hbase hg' htake hvb hx hy hxs
  · obtain rfl : i = n := by omega
    rw [take_all hxl, drop_all hxl, List.append_nil]
    exact insert_end base i v xs vb x y w hn hown hvb hx hy hbase
theorem take_splice {L cs : List Value} {off k : Nat} (h : k ≤ off) (hl : off ≤ L.length) : (splice L off cs).take k = L.take k := by
  unfold splice
  rw [List.take_append_of_le_length (by rw [List.length_take]; omega), List.take_take, Nat.min_eq_left h]
/-- What 'clear' runs as. -/
theorem run_clear2 {P : Program} {w : World} {dT elem ty : TypeId} (hu : P.underlying dT = some (.slice elem)) (z : Value) (hz : ∀ w, (zeroValue elem).run P w = .ok z w) (hzc : z.cells.size = 2) (hz1 : ∀ v ∈ z.cells, v.oneCell' = true)
    (dLen dCap : Nat) (g off : Nat) (cur : List Value) (t : TypeId) (hg : w.heap[g]? = some (.cells cur.toArray t (0, 0))) (hfit : off + dLen * 2 ≤ cur.length) (w0 : World) (hb : w0.grownBy w (some g)) :
    ∃ w' cs, (Builtin.clear_ #[dT] ty #[.slice (some ⟨g, off, none⟩) dLen dCap]).run P w = .ok (.tuple #[]) w' ∧ cs.length = dLen * 2 ∧ Hid (w'.heap[g]? = some (.cells (splice cur off cs).toArray t (0, 0))) ∧ w0.grownBy w' (some g) := by
  by_cases h0 : dLen = 0
  · subst h0
    exact ⟨w, [], by simp [Builtin.clear_, run_underlying hu], by simp, (show _ = _ by simpa [splice] using hg), hb⟩
  · obtain ⟨n, rfl⟩ : ∃ n, dLen = n + 1 := ⟨dLen - 1, by omega⟩
    have hl : (Builtin.zeroCells z.cells (n + 1)).toList.length = (n + 1) * 2 := by simp [Builtin.zeroCells, hzc]
    have h1 : ∀ v ∈ (Builtin.zeroCells z.cells (n + 1)).toList, v.oneCell' = true := by
      intro v hv
      simp only [Builtin.zeroCells, Array.toList_map, List.mem_map] at hv
      obtain ⟨i, _, rfl⟩ := hv
      refine hz1 _ ?_
      rw [getElem!_pos z.cells (i % z.cells.size) (Nat.mod_lt _ (by omega))]
      exact Array.getElem_mem _
    have hst := run_storeCells_at P g off t (Builtin.zeroCells z.cells (n + 1)).toList 0 cur.toArray w hg (by rw [hl]; simpa using hfit) h1
    refine ⟨w.setRow g (cur.take off ++ (Builtin.zeroCells z.cells (n + 1)).toList ++ cur.drop (off + (Builtin.zeroCells z.cells (n + 1)).toList.length)).toArray, (Builtin.zeroCells z.cells (n + 1)).toList, ?_, hl, (show _ = _ from ?_), grown_setRow hb _⟩
    · simp only [Nat.add_zero] at hst
      simp [Builtin.clear_, run_underlying hu, hz, hst]
    · have := setRow_heap w g cur.toArray (cur.take off ++ (Builtin.zeroCells z.cells (n + 1)).toList ++ cur.drop (off + (Builtin.zeroCells z.cells (n + 1)).toList.length)).toArray t _ hg
      simpa [splice] using this
set_option maxHeartbeats 4000000 in
/-- Nothing is taken out. -/
theorem replace_none (base n i : Nat) (v : Value) (xs : List Value) (vb : Nat) (x y : Value) (w : World) (hi : i ≤ n) (hn : n < 1000000) (hown : w.ownsRow base 75 2 v n xs)
    (hvb : w.heap[vb]? = some (.cells #[x, y] 75 (0, 0))) (hne : v.ownBlock ≠ some vb) (hx : x.oneCell' = true) (hy : y.oneCell' = true) (hxs : ∀ v ∈ xs, v.oneCell' = true) (hbase : base ≤ w.heap.size) :
    Calls Tryd.prog 65 #[v, .int .i64 i, .int .i64 i, .slice (some ⟨vb, 0, none⟩) 1 1] w (Put base v (n + 1) (xs.take (i * 2) ++ ([x, y] ++ xs.drop (i * 2))) w) := by
  have hform : ∃ a c, v = .slice a n c ∧ n ≤ c ∧ c ≤ maxLen := by
    rcases hown.2 with ⟨rfl, rfl⟩ | ⟨g, cap, cur, rfl, _, _, h1, h2, _⟩
    · exact ⟨none, 0, rfl, Nat.le_refl _, by decide⟩
    · exact ⟨_, _, rfl, h1, h2⟩
  have HC := Lib.hid (insert_any base n i v xs vb x y w hi hn hown hvb hne hx hy hxs hbase)
  clear hown hvb hne hx hy hxs
  obtain ⟨a, c, rfl, hnc, hcm⟩ := hform
  unfold maxLen at hcm
  go_enter Tryd.func65, Tryd.ntmps65
  go_wp2_with (go_at_call 74; refine HC.out.mono ?_; rintro e w' ⟨v', rfl, h1, h2, h3⟩)
  all_goals (go_ret; first | exact ⟨v', rfl, h1, h2, h3⟩ | (have e : c = i := (by omega); subst e; exact ⟨v', rfl, h1, h2, h3⟩))
set_option maxHeartbeats 4000000 in
/-- What is taken out reaches to the end. -/
theorem replace_end (base n i g cap : Nat) (xs : List Value) (cur : List Value) (vb : Nat) (x y : Value) (w : World) (hi : i < n) (hn : n < 1000000) (hxl : xs.length = n * 2) (hbg : base ≤ g)
    (hg : w.heap[g]? = some (.cells cur.toArray 75 (0, 0))) (hnc : n ≤ cap) (hcm : cap ≤ maxLen) (hcl : cur.length = cap * 2) (hct : cur.take (n * 2) = xs)
    (hvb : w.heap[vb]? = some (.cells #[x, y] 75 (0, 0))) (hx : x.oneCell' = true) (hy : y.oneCell' = true) :
    Calls Tryd.prog 65 #[.slice (some ⟨g, 0, none⟩) n cap, .int .i64 i, .int .i64 n, .slice (some ⟨vb, 0, none⟩) 1 1] w (Put base (.slice (some ⟨g, 0, none⟩) n cap) (i + 1) (xs.take (i * 2) ++ [x, y]) w) := by
  obtain ⟨i0, hi0, hz0, hz1, hz2⟩ := info_parts infoRun
  have hcm' := hcm
  unfold maxLen at hcm'
  obtain ⟨A, hA⟩ : ∃ A, A = xs.take (i * 2) := ⟨_, rfl⟩
  obtain ⟨Z, hZ⟩ : ∃ Z, cur = A ++ Z := ⟨cur.drop (i * 2), by rw [hA, ← hct, List.take_take, Nat.min_eq_left (by omega), List.take_append_drop]⟩
  have hAl : A.length = i * 2 := by rw [hA, List.length_take]; omega
  have hZl : Z.length = (cap - i) * 2 := by have := congrArg List.length hZ; rw [List.length_append] at this; omega
  obtain ⟨w1, hw1⟩ : ∃ w1, w1 = w.setRow g (cur.take (i * 2) ++ [x, y] ++ cur.drop (i * 2 + 2)).toArray := ⟨_, rfl⟩
  have hrun1 : ∀ ty, (Builtin.append_ #[59, 59] ty #[.slice (some ⟨g, 0, none⟩) i cap, .slice (some ⟨vb, 0, none⟩) 1 1]).run Tryd.prog w = .ok (.slice (some ⟨g, 0, none⟩) (i + 1) cap) w1 := fun ty => by
    have h := run_append_room (P := Tryd.prog) w 59 ty 75 i0 Tryd.underlying59 hi0 g i cap cur.toArray hg ⟨vb, 0, none⟩ 1 1 [x, y] (by rw [hz1]; rfl) (two_cells hvb) (by simp [hx, hy]) (by omega) (by rw [hz1]; simp; omega)
    rw [hz1] at h
    rw [hw1]
    simpa using h
  have hg1 : w1.heap[g]? = some (.cells (splice cur (i * 2) [x, y]).toArray 75 (0, 0)) := by
    rw [hw1]
    have := setRow_heap w g cur.toArray (cur.take (i * 2) ++ [x, y] ++ cur.drop (i * 2 + 2)).toArray 75 _ hg
    simpa [splice] using this
  have hb1 : w.grownBy w1 (some g) := by rw [hw1]; exact grown_setRow (grown_id w _) _
  have hl1 : (splice cur (i * 2) [x, y]).length = cap * 2 := (length_splice _ _ _ (by rw [hcl]; simp; omega)).trans hcl
  have hT : (splice cur (i * 2) [x, y]).take ((i + 1) * 2) = A ++ [x, y] := by
    have h := splice_grow A [] Z x y (by simp; omega)
    simp only [List.length_nil, Nat.add_zero, List.append_nil, hAl, splice] at h
    rw [show (i + 1) * 2 = i * 2 + 2 by omega, hZ]
    simpa [splice] using h
  obtain ⟨w2, cs, hrun2, hcs2, hg2, hb2⟩ := run_clear2 (P := Tryd.prog) (w := w1) (dT := 59) (ty := 0) Tryd.underlying59 _ zeroRun (by rfl) (by decide) (n - (i + 1)) (cap - (i + 1)) g ((i + 1) * 2) _ _ hg1 (by rw [hl1]; omega) w hb1
  rw [← hA]
  have HT := Lib.hid hT
  have HL := Lib.hid hl1
  have HG := Lib.hid hg1
  clear hw1 hA hZ hT hl1 hg1 hAl hZl
  have hk1 : ¬ (i : Int) = (n : Int) := by omega
  have hk2 : i ≤ n := by omega
  have hk3 : ¬ (cap = i) := by omega
  by_cases hin : i + 1 < n
  · have hk4 : ¬ (cap = i + 1) := by omega
    have hk5 : (i : Int) + 1 < (n : Int) := by omega
    go_enter Tryd.func65, Tryd.ntmps65
    go_wp2_with (at_builtin; refine Lib.wpList_append_run _ rfl _ _ _ _ rfl _ _ rfl rfl _ _ (hrun1 _) ?_)
    go_ret
    exact ⟨_, rfl, grown_row_own hg2.out hbg (by omega) hcm ((length_splice _ _ _ (by rw [hcs2, HL.out]; omega)).trans HL.out) ((take_splice (Nat.le_refl _) (by rw [HL.out]; omega)).trans HT.out), hb2, fun g' e => .inl e⟩
  · obtain rfl : n = i + 1 := by omega
    go_enter Tryd.func65, Tryd.ntmps65
    go_wp2_with (at_builtin; refine Lib.wpList_append_run _ rfl _ _ _ _ rfl _ _ rfl rfl _ _ (hrun1 _) ?_)
    go_ret
    exact ⟨_, rfl, grown_row_own HG.out hbg (by omega) hcm HL.out HT.out, hb1, fun g' e => .inl e⟩
end Go.Proofs.YtooaamepflkgnaaDoor
set_option maxRecDepth 100000
namespace Go.Proofs.YtooaamepflkgnaaDoor
open Go.RowKit

set_option maxHeartbeats 4000000 in
/-- What is taken out lies between. -/
theorem replace_mid (base n i j g cap : Nat) (xs : List Value) (cur : List Value) (vb : Nat) (x y : Value) (w : World) (hij : i < j) (hj : j < n) (hn : n < 1000000) (hxl : xs.length = n * 2) (hbg : base ≤ g)
    (hg : w.heap[g]? = some (.cells cur.toArray 75 (0, 0))) (hnc : n ≤ cap) (hcm : cap ≤ maxLen) (hcl : cur.length = cap * 2) (hct : cur.take (n * 2) = xs)
    (hvb : w.heap[vb]? = some (.cells #[x, y] 75 (0, 0))) (hx : x.oneCell' = true) (hy : y.oneCell' = true) (hxs : ∀ v ∈ xs, v.oneCell' = true) :
    Calls Tryd.prog 65 #[.slice (some ⟨g, 0, none⟩) n cap, .int .i64 i, .int .i64 j, .slice (some ⟨vb, 0, none⟩) 1 1] w (Put base (.slice (some ⟨g, 0, none⟩) n cap) (i + 1 + (n - j)) (xs.take (i * 2) ++ ([x, y] ++ xs.drop (j * 2))) w) := by
  have hcm' := hcm
  unfold maxLen at hcm'
  have hlt : g < w.heap.size := lt_of_block hg
  have hvl : vb < w.heap.size := lt_of_block hvb
  obtain ⟨A, hA⟩ : ∃ A, A = xs.take (i * 2) := ⟨_, rfl⟩
  obtain ⟨B, hB⟩ : ∃ B, B = xs.drop (j * 2) := ⟨_, rfl⟩
  obtain ⟨Z, hZ⟩ : ∃ Z, cur = A ++ Z := ⟨cur.drop (i * 2), by rw [hA, ← hct, List.take_take, Nat.min_eq_left (by omega), List.take_append_drop]⟩
  have hAl : A.length = i * 2 := by rw [hA, List.length_take]; omega
  have hBl : B.length = (n - j) * 2 := by rw [hB, List.length_drop]; omega
  have hZl : Z.length = (cap - i) * 2 := by have := congrArg List.length hZ; rw [List.length_append] at this; omega
  have hB1 : ∀ v ∈ B, v.oneCell' = true := fun v hv => hxs v (by rw [hB] at hv; exact List.mem_of_mem_drop hv)
  obtain ⟨w1, hrun1, hg1, hb1⟩ := run_copy2 (P := Tryd.prog) (w := w.drew) (dT := 59) (sT := 59) (ty := 3) Tryd.underlying59 sizeRun (some ⟨g, i * 2, none⟩) (some ⟨vb, 0, none⟩) (i + 1 + (n - j) - i) (cap - i) 1 1 g (i * 2) cur _ (show w.drew.heap[g]? = _ from hg) [x, y] (by simp only [Nat.min_def, List.length_cons, List.length_nil]; split <;> omega) (fun _ => ⟨rfl, _, rfl, two_cells (show w.drew.heap[vb]? = _ from hvb)⟩) (by rw [hcl]; simp; omega) (by simp [hx, hy]) w (grown_drew (grown_id w _))
  have hl1 : (splice cur (i * 2) [x, y]).length = cap * 2 := (length_splice _ _ _ (by rw [hcl]; simp; omega)).trans hcl
  have hBs1 : ∀ k v, B[k]? = some v → w1.cell? ((⟨g, j * 2, none⟩ : Addr).add k) = some v := fun k v hk => by
    rw [Addr.add_lit, cell_of_row w1 g _ _ _ _ hg1.out]
    have hkl : k < B.length := (List.getElem?_eq_some_iff.1 hk).1
    rw [hB, ← hct, List.getElem?_drop, List.getElem?_take] at hk
    rw [if_pos (by omega)] at hk
    simp only [List.getElem?_toArray, splice]
    rw [List.getElem?_append_right (by rw [List.length_take]; omega), List.getElem?_append_right (by simp only [List.length_take, List.length_cons, List.length_nil]; omega), List.getElem?_drop]
    rw [← hk]
    congr 1
    simp only [List.length_take, List.length_cons, List.length_nil]
    omega
  have hT : (splice (splice cur (i * 2) [x, y]) ((i + 1) * 2) B).take ((i + 1 + (n - j)) * 2) = A ++ ([x, y] ++ B) := by
    have h := splice_grow A B Z x y (by omega)
    rw [hAl, hBl] at h
    rw [show (i + 1) * 2 = i * 2 + 2 by omega, hZ, show (i + 1 + (n - j)) * 2 = i * 2 + 2 + (n - j) * 2 by omega]
    exact h
  rw [← hA, ← hB]
  have HT := Lib.hid hT
  have HL := Lib.hid hl1
  have HB := Lib.hid hBl
  clear hA hB hZ hT hl1 hAl hZl hBl hct hxl hxs
  have hk1 : ¬ (i : Int) = (j : Int) := by omega
  have hk2 : i ≤ j := by omega
  have hk3 : ¬ (cap = i) := by omega
  have hk4 : j ≤ n := by omega
  have hk5 : ¬ (j : Int) = (n : Int) := by omega
  have hk6 : ¬ (cap = j) := by omega
  have hk7 : i ≤ cap := by omega
  have hk8 : j ≤ cap := by omega
  have hk9 : i + 1 + (n - j) ≤ cap := by omega
  have hk10 : ¬ (cap = i + 1) := by omega
  have hk12 : i + 1 ≤ i + 1 + (n - j) := by omega
  have hk13 : i + 1 + (n - j) ≤ n := by omega
  have hk14 : i ≤ i + 1 + (n - j) := by omega
  have mixed : Tryd.prog.follows .mixedOrders = true := by kernel_rfl
  have hw1 : IntKind.i64.wrap ((i : Int) + 1) = (i : Int) + 1 := by rw [IntKind.wrap_i64]; omega
  have hb1' : (0 : Int) ≤ (i : Int) + 1 := by omega
  have htn : ((i : Int) + 1).toNat = i + 1 := by omega
  have hb3' : (i : Int) + 1 ≤ (i : Int) + 1 + ((n - j : Nat) : Int) := by omega
  have HCL := Lib.hid hcl
  by_cases htot : i + 1 + (n - j) < n
  · have hk11 : ¬ (cap = i + 1 + (n - j)) := by omega
    go_enter Tryd.func65, Tryd.ntmps65
    go_wp2
    go_region_law_o fail
    go_wp2
    all_goals
      go_region_law_o (refine step_copy2 rfl _ _ 59 59 rfl 75 Tryd.underlying59 sizeRun (some ⟨g, (i + 1) * 2, none⟩) (some ⟨g, j * 2, none⟩) (i + 1 + (n - j) - (i + 1)) (cap - (i + 1)) (n - j) (cap - j) (by simp [Act.eval, Act.put]) (by simp [Act.eval, Act.put]) g ((i + 1) * 2) (splice cur (i * 2) [x, y]) _ hg1.out B (by rw [HB.out]; simp only [Nat.min_def]; split <;> omega) (fun _ => ⟨rfl, _, rfl, hBs1⟩) (by rw [HB.out, HL.out]; omega) hB1 w (grown_drew hb1) ?_; intro w2 hg2 hb2)
      have hl2 : (splice (splice cur (i * 2) [x, y]) ((i + 1) * 2) B).length = cap * 2 := (length_splice _ _ _ (by rw [HB.out, HL.out]; omega)).trans HL.out
      have HL2 := Lib.hid hl2
      obtain ⟨w3, cs, hrun3, hcs3, hg3, hb3⟩ := run_clear2 (P := Tryd.prog) (w := w2) (dT := 59) (ty := 0) Tryd.underlying59 _ zeroRun (by rfl) (by decide) (n - (i + 1 + (n - j))) (cap - (i + 1 + (n - j))) g ((i + 1 + (n - j)) * 2) _ _ hg2.out (by rw [hl2]; omega) w hb2
      clear hl2
      go_wp2
      go_ret
      exact ⟨_, rfl, grown_row_own hg3.out hbg hk9 hcm ((length_splice _ _ _ (by rw [hcs3, HL2.out]; omega)).trans HL2.out) ((take_splice (Nat.le_refl _) (by rw [HL2.out]; omega)).trans HT.out), hb3, fun g' e => .inl e⟩
  · have hz0 : n - (i + 1 + (n - j)) = 0 := by omega
    go_enter Tryd.func65, Tryd.ntmps65
    go_wp2
    go_region_law_o fail
    go_wp2
    all_goals
      go_region_law_o (refine step_copy2 rfl _ _ 59 59 rfl 75 Tryd.underlying59 sizeRun (some ⟨g, (i + 1) * 2, none⟩) (some ⟨g, j * 2, none⟩) (i + 1 + (n - j) - (i + 1)) (cap - (i + 1)) (n - j) (cap - j) (by simp [Act.eval, Act.put]) (by simp [Act.eval, Act.put]) g ((i + 1) * 2) (splice cur (i * 2) [x, y]) _ hg1.out B (by rw [HB.out]; simp only [Nat.min_def]; split <;> omega) (fun _ => ⟨rfl, _, rfl, hBs1⟩) (by rw [HB.out, HL.out]; omega) hB1 w (grown_drew hb1) ?_; intro w2 hg2 hb2)
      have hl2 : (splice (splice cur (i * 2) [x, y]) ((i + 1) * 2) B).length = cap * 2 := (length_splice _ _ _ (by rw [HB.out, HL.out]; omega)).trans HL.out
      have HL2 := Lib.hid hl2
      clear hl2
      have hclr : ∀ o c, (Builtin.clear_ #[59] 0 #[.slice (some ⟨g, o, none⟩) 0 c]).run Tryd.prog w2 = .ok (.tuple #[]) w2 := fun o c => by simp [Builtin.clear_, run_underlying Tryd.underlying59]
      go_wp2
      all_goals (go_ret; first | exact ⟨_, rfl, grown_row_own hg2.out hbg hk9 hcm HL2.out HT.out, hb2, fun g' e => .inl e⟩ | (have e : cap = i + 1 + (n - j) := (by omega); subst e; exact ⟨_, rfl, grown_row_own hg2.out hbg (Nat.le_refl _) hcm HL2.out HT.out, hb2, fun g' e => .inl e⟩))
theorem replace_any (base n i j : Nat) (v : Value) (xs : List Value) (vb : Nat) (x y : Value) (w : World) (hij : i ≤ j) (hj : j ≤ n) (hn : n < 1000000) (hown : w.ownsRow base 75 2 v n xs)
    (hvb : w.heap[vb]? = some (.cells #[x, y] 75 (0, 0))) (hne : v.ownBlock ≠ some vb) (hx : x.oneCell' = true) (hy : y.oneCell' = true) (hxs : ∀ v ∈ xs, v.oneCell' = true) (hbase : base ≤ w.heap.size) :
    Calls Tryd.prog 65 #[v, .int .i64 i, .int .i64 j, .slice (some ⟨vb, 0, none⟩) 1 1] w (Put base v (i + 1 + (n - j)) (xs.take (i * 2) ++ ([x, y] ++ xs.drop (j * 2))) w) := by
  have hxl := hown.1
  rcases Nat.lt_or_ge i j with h | h
  · rcases hown.2 with ⟨_, h0⟩ | ⟨g, cap, cur, rfl, hbg, hg, hnc, hcm, hcs, htake⟩
    · omega
    · have hg' : w.heap[g]? = some (.cells cur.toList.toArray 75 (0, 0)) := by simpa using hg
      rcases Nat.lt_or_ge j n with hc | hc
      · exact replace_mid base n i j g cap xs cur.toList vb x y w h hc hn hxl hbg hg' hnc hcm (by simpa using hcs) htake hvb hx hy hxs
      · obtain rfl : j = n := by omega
        rw [drop_all hxl, List.append_nil, Nat.sub_self, Nat.add_zero]
        exact replace_end base j i g cap xs cur.toList vb x y w h hn hxl hbg hg' hnc hcm (by simpa using hcs) htake hvb hx hy
  · obtain rfl : i = j := by omega
    rw [show i + 1 + (n - i) = n + 1 by omega]
    exact replace_none base n i v xs vb x y w hj hn hown hvb hne hx hy hxs hbase
end Go.Proofs.YtooaamepflkgnaaDoor
