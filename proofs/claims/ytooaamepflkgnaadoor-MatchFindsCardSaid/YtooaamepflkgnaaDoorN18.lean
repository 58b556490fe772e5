/- Texts that a proof rests on: Contracts of firstReaching, empty, last. | The contract of add. | Contracts of span, join. -/
import Derived.Test.YtooaamepflkgnaaDoorN13
import Derived.Deep.QuietTactic
import Derived.BigQuiet
import Derived.StillTailTactics
import Derived.Test.YtooaamepflkgnaaDoorN19
set_option maxRecDepth 100000
namespace Go.Proofs.YtooaamepflkgnaaDoor
open Go.RowKit

theorem below_one (w : World) (o : Obj) : Below w.heap.size w (w.alloc o) := (Below.refl _ _).alloc (Nat.le_refl _) _
set_option maxHeartbeats 1000000 in
theorem reach1_any (L : List (Int × Int)) (v : Value) (X : Nat → Prop) (m : Int) (i b1 b2 : Nat) (W : World) (hi : i < L.length) (hlen : L.length < 1000000) (hr : Rn W X v L)
    (h1 : W.cell? ⟨b1, 0, none⟩ = some v) (h2 : W.cell? ⟨b2, 0, none⟩ = some (.int .i64 m)) :
    Calls Tryd.prog 73 #[.int .i64 i, .pointer (some ⟨b1, 0, none⟩), .pointer (some ⟨b2, 0, none⟩)] W fun e W' => e = .returned (.bool (decide (m ≤ L[i].2))) ∧ Below W.heap.size W W' := by
  obtain ⟨b, o, c, rfl, hc, _, hrow⟩ := hr.row (by omega)
  have hx := (hrow i hi).2
  clear hrow
  generalize L[i].2 = y at hx ⊢
  go_enter Tryd.func73, Tryd.ntmps73
  go_wp2
  go_still_tail 7, (by kernel_rfl)
  go_wp2
  go_ret
  exact ⟨by rfl, (Below.refl _ _).drew⟩
set_option maxHeartbeats 1000000 in
theorem reach_any (L : List (Int × Int)) (v : Value) (X : Nat → Prop) (m : Int) (w : World) (hN : Nrm L) (hlen : L.length < 1000000) (hr : Rn w X v L) :
    Calls Tryd.prog 64 #[.agg #[v], .int .i64 m] w fun e w' => e = .returned (.int .i64 (below m L)) ∧ Below w.heap.size w w' := by
  obtain ⟨a, c, rfl⟩ := hr.len
  have hb1 : Below w.heap.size w ((w.alloc (.cells #[.slice a L.length c] 61)).alloc (.cells #[.int .i64 m] 3)) := below2 w _ _
  obtain ⟨W, hW⟩ : ∃ W, W = (w.alloc (.cells #[.slice a L.length c] 61)).alloc (.cells #[.int .i64 m] 3) := ⟨_, rfl⟩
  have hs1 : W.cell? ⟨w.heap.size, 0, none⟩ = some (.slice a L.length c) := by
    rw [hW]
    exact Lib.cell?_alloc_some _ ((cell_of_row _ _ 0 _ _ _ (heap_alloc_new w _)).trans rfl)
  have hs2 : W.cell? ⟨w.heap.size + 1, 0, none⟩ = some (.int .i64 m) := by
    rw [hW]
    have := heap_alloc_new (w.alloc (.cells #[.slice a L.length c] 61)) (.cells #[.int .i64 m] 3)
    rw [show (w.alloc (.cells #[.slice a L.length c] 61)).heap.size = w.heap.size + 1 by simp] at this
    exact (cell_of_row _ _ 0 _ _ _ this).trans rfl
  rw [← hW] at hb1
  have HR := Lib.hid (hr.below hb1)
  clear hr
  have hS := search_any L.length (below m L) #[.pointer (some ⟨w.heap.size, 0, none⟩), .pointer (some ⟨w.heap.size + 1, 0, none⟩)] (fun i => if h : i < L.length then decide (m ≤ L[i].2) else true) W hlen (below_le m L)
    (fun t ht => by
      have hl : t < L.length := Nat.lt_of_lt_of_le ht (below_le m L)
      rw [dif_pos hl]
      have := below_lt m L t hl ht
      simpa using this)
    (fun t ht hl => by
      rw [dif_pos hl]
      have := below_ge m L hN t hl ht
      simpa using this)
    (fun W' i hb hi => by
      rw [dif_pos hi]
      exact reach1_any L _ X m i _ _ W' hi hlen (HR.out.below hb) (cell_below hb hs1) (cell_below hb hs2))
  have HS := Lib.hid hS
  clear hS
  go_enter Tryd.func64, Tryd.ntmps64
  go_wp2_with (go_at_call 72; rw [← hW]; clear hW; refine HS.out.mono ?_; rintro e w2 ⟨rfl, hb2⟩)
  go_ret
  exact ⟨rfl, hb1.trans (hb2.mono hb1.size)⟩
theorem empty_any (L : List (Int × Int)) (v : Value) (X : Nat → Prop) (w : World) (hr : Rn w X v L) :
    Calls Tryd.prog 40 #[.agg #[v]] w fun e w' => e = .returned (.bool (L.length == 0)) ∧ Below w.heap.size w w' := by
  obtain ⟨a, c, rfl⟩ := hr.len
  have hb1 := below_one w (.cells #[.slice a L.length c] 61)
  go_enter Tryd.func40, Tryd.ntmps40
  go_wp2
  go_ret
  refine ⟨?_, hb1⟩
  have : ((L.length : Int) == 0) = (L.length == 0) := by cases L <;> simp <;> omega
  rw [← this]; rfl
set_option maxHeartbeats 1000000 in
theorem last_any (L : List (Int × Int)) (v : Value) (X : Nat → Prop) (w : World) (hlen : L.length < 1000000) (hr : Rn w X v L) :
    Calls Tryd.prog 33 #[.agg #[v]] w fun e w' => e = .returned (.tuple #[.int .i64 (if L = [] then 0 else lastR L), .bool (decide (L ≠ []))]) ∧ Below w.heap.size w w' := by
  obtain ⟨a, c, rfl⟩ := hr.len
  have hb1 := below_one w (.cells #[.slice a L.length c] 61)
  have hr1 := hr.below hb1
  by_cases h0 : L = []
  · subst h0
    rw [if_pos rfl]
    go_enter Tryd.func33, Tryd.ntmps33
    go_wp2_with (go_at_call 40; refine (empty_any [] _ X _ hr1).mono ?_; rintro e w2 ⟨rfl, hb2⟩)
    exact bodyPost_ret (v := .tuple #[.int .i64 0, .bool false]) (by simp [results, Tryd.results33, go_sem, *]) rfl ⟨rfl, hb1.trans (hb2.mono hb1.size)⟩
  · rw [if_neg h0, show decide (L ≠ []) = true by simpa using h0]
    have hpos : 0 < L.length := List.length_pos_iff.2 h0
    have hl : lastR L = (L[L.length - 1]'(by omega)).2 := by
      unfold lastR
      rw [List.getLast?_eq_getElem?, List.getElem?_eq_getElem (by omega)]; rfl
    rw [hl]
    have hE : (L.length == 0) = false := by simp; exact h0
    have hix : (L.length : Int) - 1 = ((L.length - 1 : Nat) : Int) := by omega
    have HE := Lib.hid hE
    clear hE h0 hl
    obtain ⟨b, o, c', e, hc, _, hrow⟩ := hr1.row hpos
    cases e
    have hx := (hrow (L.length - 1) (by omega)).2
    have hw1 : (L.length - 1) < L.length := by omega
    generalize (L[L.length - 1]'(by omega)).2 = y at hx ⊢
    clear hrow hr
    have HR := Lib.hid hr1
    clear hr1
    generalize L.length - 1 = k at *
    have hbx : (w.alloc (.cells #[.slice (some ⟨b, o, none⟩) L.length c] 61)).cell? ⟨w.heap.size, 0, none⟩ = some (.slice (some ⟨b, o, none⟩) L.length c) := (cell_of_row _ _ 0 _ _ _ (heap_alloc_new w _)).trans rfl
    have HX := Lib.hid hx
    have HB := Lib.hid hbx
    clear hx hbx
    go_enter Tryd.func33, Tryd.ntmps33
    go_wp2_with (go_at_call 40; refine (empty_any L _ X _ HR.out).mono ?_; rw [HE.out]; rintro e w2 ⟨rfl, hb2⟩; have hx2 := cell_below hb2 HX.out; have hd2 := cell_below hb2 HB.out)
    exact bodyPost_ret (v := .tuple #[.int .i64 y, .bool true]) (by simp [results, Tryd.results33, go_sem, *]) rfl ⟨rfl, hb1.trans (hb2.mono hb1.size)⟩
end Go.Proofs.YtooaamepflkgnaaDoor
set_option maxRecDepth 100000
namespace Go.Proofs.YtooaamepflkgnaaDoor
open Go.RowKit

/-- Block bp holds a set whose runs lie in a row of its own, at base or behind it. -/
def SetB (w : World) (bp base : Nat) (v : Value) (L : List (Int × Int)) : Prop := w.heap[bp]? = some (.cells #[v] 61 (0, 0)) ∧ RRow w base v L ∧ bp < base ∧ base ≤ w.heap.size
/-- The two blocks of it. -/
def Priv (bp : Nat) (v : Value) : Nat → Prop := fun k => k = bp ∨ v.ownBlock = some k
theorem SetB.lt {w : World} {bp base : Nat} {v : Value} {L : List (Int × Int)} (h : SetB w bp base v L) : bp < w.heap.size := lt_of_block h.1
theorem SetB.cell {w : World} {bp base : Nat} {v : Value} {L : List (Int × Int)} (h : SetB w bp base v L) : w.cell? ⟨bp, 0, none⟩ = some v := (cell_of_row _ _ 0 _ _ _ h.1).trans rfl
theorem SetB.free {w : World} {bp base : Nat} {v : Value} {L : List (Int × Int)} (h : SetB w bp base v L) : w.frozen? ⟨bp, 0, none⟩ = false := frozen_row h.1
theorem SetB.rn {w : World} {bp base : Nat} {v : Value} {L : List (Int × Int)} (h : SetB w bp base v L) : Rn w (fun k => k < base) v L := h.2.1.rn
theorem SetB.own {w : World} {bp base : Nat} {v : Value} {L : List (Int × Int)} (h : SetB w bp base v L) {g : Nat} (hg : v.ownBlock = some g) : base ≤ g ∧ g < w.heap.size := h.2.1.lt g hg
theorem RRow.out {w w' : World} {base : Nat} {v : Value} {L : List (Int × Int)} {X : Nat → Prop} (h : RRow w base v L) (ho : Out X w w') (hx : ∀ g, v.ownBlock = some g → ¬ X g) : RRow w' base v L := by
  refine ⟨h.1, ?_⟩
  rcases h.2 with h0 | ⟨g, cap, cur, e, hb, hg, rest⟩
  · exact .inl h0
  · refine .inr ⟨g, cap, cur, e, hb, ?_, rest⟩
    rw [ho.block g (lt_of_block hg) (hx g (by rw [e]; rfl))]
    exact hg
theorem SetB.out {w w' : World} {bp base : Nat} {v : Value} {L : List (Int × Int)} {X : Nat → Prop} (h : SetB w bp base v L) (ho : Out X w w') (hx : ∀ k, Priv bp v k → ¬ X k) : SetB w' bp base v L :=
  ⟨(ho.block bp h.lt (hx bp (.inl rfl))).trans h.1, h.2.1.out ho (fun g hg => hx g (.inr hg)), h.2.2.1, Nat.le_trans h.2.2.2 ho.size⟩
theorem SetB.below {w w' : World} {bp base : Nat} {v : Value} {L : List (Int × Int)} (h : SetB w bp base v L) (hb : Below w.heap.size w w') : SetB w' bp base v L :=
  h.out (Out.below (X := fun _ => False) hb) (fun _ _ h => h)
theorem SetB.new (w : World) {n : Nat} (hn : w.heap.size = n) : SetB (w.alloc (.cells #[.slice none 0 0] 61)) n (n + 1) (.slice none 0 0) [] := by
  subst hn
  exact ⟨heap_alloc_new w _, RRow.nil _ _, Nat.lt_succ_self _, by simp⟩
/-- Numbers that are not too great. -/
def Bd (L : List (Int × Int)) : Prop := ∀ r ∈ L, -1000000 ≤ r.1 ∧ r.1 ≤ 1000000 ∧ -1000000 ≤ r.2 ∧ r.2 ≤ 1000000
theorem absorb_step {L : List (Int × Int)} {j : Nat} (hj : j < L.length) (lo hi : Int) :
    (L[j].1 ≤ hi + 1 → absorb lo hi (L.drop j) = ((absorb (min lo L[j].1) (max hi L[j].2) (L.drop (j + 1))).1 + 1, (absorb (min lo L[j].1) (max hi L[j].2) (L.drop (j + 1))).2)) ∧
    (¬ L[j].1 ≤ hi + 1 → absorb lo hi (L.drop j) = (0, lo, hi)) := by
  rw [List.drop_eq_getElem_cons hj]
  exact ⟨fun h => by rw [absorb, if_pos h], fun h => by rw [absorb, if_neg h]⟩
/-- What add hands on. -/
def Added (bp base : Nat) (v : Value) (L : List (Int × Int)) (w w' : World) : Prop := ∃ v', SetB w' bp base v' L ∧ Out (Priv bp v) w w' ∧ ∀ g, v'.ownBlock = some g → v.ownBlock = some g ∨ w.heap.size ≤ g
theorem flat_put (L : List (Int × Int)) (i j : Nat) (a b : Int) : (flatR L).take (i * 2) ++ ([Value.int .i64 a, Value.int .i64 b] ++ (flatR L).drop (j * 2)) = flatR (L.take i ++ (a, b) :: L.drop j) := by
  rw [flatR_take, flatR_drop, flatR_append]; rfl
theorem add_call {bp base i j : Nat} {v : Value} {L L' : List (Int × Int)} {lo hi : Int} {w wr : World} (hs : SetB wr bp base v L) (hb : Below w.heap.size w wr) (hL : L' = L.take i ++ (lo, hi) :: L.drop j) (hij : i ≤ j) (hj : j ≤ L.length) (hlen : L.length < 10000) :
    Calls Tryd.prog 65 #[v, .int .i64 i, .int .i64 j, .slice (some ⟨wr.heap.size, 0, none⟩) 1 1] (wr.alloc (.cells #[.int .i64 lo, .int .i64 hi] 75)) fun e w' =>
      ∃ a' n' c', e = .returned (.slice a' n' c') ∧ w'.cell? ⟨bp, 0, none⟩ = some v ∧ w'.frozen? ⟨bp, 0, none⟩ = false ∧ Added bp base v L' w (w'.setCell ⟨bp, 0, none⟩ (.slice a' n' c')) := by
  have hbp := hs.lt
  have hs' := hs.below (below_one wr (.cells #[.int .i64 lo, .int .i64 hi] 75))
  have hne : v.ownBlock ≠ some wr.heap.size := fun e => by have := (hs.own e).2; omega
  refine (replace_any base L.length i j v (flatR L) wr.heap.size (.int .i64 lo) (.int .i64 hi) _ hij hj (by omega) hs'.2.1 (heap_alloc_new wr _) hne rfl rfl (flatR_one L) hs'.2.2.2).mono ?_
  rintro e w' ⟨v', rfl, hrow, hg, hown⟩
  have hbv : some bp ≠ v.ownBlock := fun e => by have := (hs.own e.symm).1; have := hs.2.2.1; omega
  have hblk : w'.heap[bp]? = some (.cells #[v] 61 (0, 0)) := (hg.block bp (by simp; omega) hbv).trans hs'.1
  have hbv' : v'.ownBlock ≠ some bp := fun e => by
    rcases hown bp e with h | h
    · exact hbv h.symm
    · simp at h; omega
  have hw0 : Out (Priv bp v) w w' := (Out.below hb).trans ((Out.below (below_one wr _)).trans (Out.grown hg (fun b e => .inr e))) |>.mono (fun _ _ h => h)
  have hle : w.heap.size ≤ wr.heap.size := hb.size
  obtain ⟨a', n', c', rfl⟩ : ∃ a' n' c', v' = .slice a' n' c' := by
    rcases hrow.2 with ⟨rfl, _⟩ | ⟨g, cap, cur, rfl, _⟩
    · exact ⟨_, _, _, rfl⟩
    · exact ⟨_, _, _, rfl⟩
  refine ⟨a', n', c', rfl, (cell_of_row _ _ 0 _ _ _ hblk).trans rfl, frozen_row hblk, .slice a' n' c', ⟨?_, ?_, hs.2.2.1, ?_⟩, hw0.trans (Out.set _ 0 _ (.inl rfl)), fun g e => ?_⟩
  · have := setCell_block (i := 0) hblk (.slice a' n' c')
    simpa using this
  · have hr : RRow w' base (.slice a' n' c') L' := by
      unfold RRow
      rw [hL, ← flat_put]
      have : (L.take i ++ (lo, hi) :: L.drop j).length = i + 1 + (L.length - j) := by simp only [List.length_append, List.length_take, List.length_cons, List.length_drop]; omega
      rw [this]
      exact hrow
    exact hr.out (Out.set (X := fun k => k = bp) w' 0 (.slice a' n' c') rfl) (fun g hg' e => hbv' (by rw [hg', e]))
  · have h1 := hs'.2.2.2
    have h2 := hg.size
    have h3 := (Out.set (X := fun k => k = bp) w' 0 (.slice a' n' c') rfl).size
    omega
  · rcases hown g e with h | h
    · exact .inl h
    · simp at h; exact .inr (by omega)
set_option maxHeartbeats 4000000 in
theorem add_any (bp base : Nat) (v : Value) (L : List (Int × Int)) (lo hi : Int) (w : World) (hs : SetB w bp base v L) (hN : Nrm L) (hlen : L.length < 10000) (hB : Bd L) (hlo : -1000000 ≤ lo ∧ lo ≤ 1000000) (hhi : -1000000 ≤ hi ∧ hi ≤ 1000000) :
    Calls Tryd.prog 50 #[.pointer (some ⟨bp, 0, none⟩), .int .i64 lo, .int .i64 hi] w fun e w' => e = .returned (.tuple #[]) ∧ Added bp base v (addR L lo hi) w w' := by
  obtain ⟨a, c, rfl, hnc⟩ := hs.2.1.form
  have h0 := hs.cell
  by_cases hlh : hi < lo
  · have HP : Hid (Added bp base (.slice a L.length c) (addR L lo hi) w w) := by
      rw [show addR L lo hi = L by unfold addR; rw [if_pos hlh]]
      exact ⟨_, hs, Out.refl _ _, fun g e => .inl e⟩
    clear hs hN hB
    go_enter Tryd.func50, Tryd.ntmps50
    go_wp2
    refine bodyPost_ret (results_none rfl _ _ _) rfl ?_
    exact ⟨rfl, HP.out⟩
  · obtain ⟨i, hi0⟩ : ∃ i, below (lo - 1) L = i := ⟨_, rfl⟩
    have hR := reach_any L (.slice a L.length c) _ (lo - 1) w hN (by omega) hs.rn
    rw [hi0] at hR
    have HR := Lib.hid hR
    have hil : i ≤ L.length := by rw [← hi0]; exact below_le _ _
    obtain ⟨K, hK⟩ : ∃ K, absorb lo hi (L.drop i) = K := ⟨_, rfl⟩
    have HF : Hid (addR L lo hi = L.take i ++ K.2 :: L.drop (i + K.1)) := by
      unfold addR; rw [Hid, if_neg hlh, hi0, hK]
    clear hR hi0
    have HS := Lib.hid hs
    have HBD := Lib.hid hB
    clear hs hB hN
    go_enter Tryd.func50, Tryd.ntmps50
    go_wp2_with (go_at_call 64; refine HR.out.mono ?_; rintro e w1 ⟨rfl, hb1⟩)
    have hs1 := HS.out.below hb1
    have HS1 := Lib.hid hs1
    clear hs1
    go_loopw [1, 2, 7] (fun x y z wr => ∃ (j : Nat) (lo' hi' : Int), x = .int .i64 lo' ∧ y = .int .i64 hi' ∧ z = .int .i64 j ∧ i ≤ j ∧ j ≤ L.length ∧ (-1000000 ≤ lo' ∧ lo' ≤ 1000000) ∧ (-1000000 ≤ hi' ∧ hi' ≤ 1000000) ∧ Below w1.heap.size w1 wr ∧ K = ((absorb lo' hi' (L.drop j)).1 + (j - i), (absorb lo' hi' (L.drop j)).2)) (fun _ _ z _ => L.length - (intOf z).toNat)
    case atStart => exact ⟨i, lo, hi, rfl, rfl, rfl, Nat.le_refl _, hil, hlo, hhi, Below.refl _ _, by rw [hK, Nat.sub_self]; rfl⟩
    case round =>
      obtain ⟨j, lo', hi', rfl, rfl, rfl, hij, hjl, hlo', hhi', hbr, hKj⟩ := hrel
      have hsr := HS1.out.below hbr
      have hc := hsr.cell
      have HSR := Lib.hid hsr
      clear hsr h0
      have HKJ := Lib.hid hKj
      clear hKj
      by_cases hj : j < L.length
      · obtain ⟨b, o, c', e, _, _, hrow⟩ := HSR.out.rn.row (by omega)
        cases e
        have hst := Lib.hid (absorb_step hj lo' hi')
        have hbd := HBD.out L[j] (List.getElem_mem hj)
        obtain ⟨hx, hy⟩ := hrow j hj
        clear hrow
        obtain ⟨r1, hr1⟩ : ∃ z, L[j].1 = z := ⟨_, rfl⟩
        obtain ⟨r2, hr2⟩ : ∃ z, L[j].2 = z := ⟨_, rfl⟩
        rw [hr1, hr2] at hst hbd
        rw [hr1] at hx
        rw [hr2] at hy
        clear hr1 hr2
        by_cases ht : r1 ≤ hi' + 1
        · go_wp2
          go_still_tail 21, (by kernel_rfl)
          go_wp2
          go_roundw
          case rel =>
            refine ⟨j + 1, min lo' r1, max hi' r2, rfl, rfl, num_succ j, by omega, by omega, by omega, by omega, hbr.drew, ?_⟩
            rw [HKJ.out, hst.out.1 ht]
            refine Prod.ext ?_ rfl
            show _ + 1 + (j - i) = _ + (j + 1 - i)
            omega
          case measure => simp [intOf]; omega
        · have hdec : decide (r1 ≤ hi' + 1) = false := by simpa using ht
          have HC := Lib.hid (add_call (L' := addR L lo hi) (lo := lo') (hi := hi') HSR.out (hb1.trans (hbr.mono hb1.size)) (by rw [HF.out, HKJ.out, hst.out.2 ht]; show L.take i ++ (lo', hi') :: L.drop (i + (0 + (j - i))) = _; rw [show i + (0 + (j - i)) = j by omega]) hij hjl hlen)
          go_wp2_with (go_at_call 65; refine HC.out.mono ?_; rintro e w2 ⟨a', n', c', rfl, hc2, hf2, hA⟩)
          go_end0
          exact ⟨rfl, hA⟩
      · obtain rfl : j = L.length := by omega
        clear hj
        have HC := Lib.hid (add_call (L' := addR L lo hi) (lo := lo') (hi := hi') HSR.out (hb1.trans (hbr.mono hb1.size)) (by rw [HF.out, HKJ.out, List.drop_length]; show L.take i ++ (lo', hi') :: L.drop (i + (0 + (L.length - i))) = _; rw [show i + (0 + (L.length - i)) = L.length by omega, List.drop_length]) hij hjl hlen)
        go_wp2_with (go_at_call 65; refine HC.out.mono ?_; rintro e w2 ⟨a', n', c', rfl, hc2, hf2, hA⟩)
        go_end0
        exact ⟨rfl, hA⟩
end Go.Proofs.YtooaamepflkgnaaDoor
set_option maxRecDepth 100000
namespace Go.Proofs.YtooaamepflkgnaaDoor
open Go.RowKit

theorem Out.comp {X Y : Nat → Prop} {a b c : World} (h : Out X a b) (k : Out Y b c) (hy : ∀ i, i < a.heap.size → Y i → X i) : Out X a c :=
  ⟨k.os.trans h.os, k.tape.trans h.tape, k.output.trans h.output, Nat.le_trans h.size k.size, fun i hi hx => (k.block i (Nat.lt_of_lt_of_le hi h.size) (fun e => hx (hy i hi e))).trans (h.block i hi hx)⟩
theorem In.bd {n : Int} {L : List (Int × Int)} (hN : Nrm L) (h : In n L) (hn : n ≤ 5000) : Bd L := fun r hr => by
  have := h.run hN hr
  omega
theorem In.small {n : Int} {L : List (Int × Int)} (hN : Nrm L) (h : In n L) (hn0 : 0 ≤ n) (hn : n ≤ 5000) : L.length < 10000 := by
  have := h.len hN hn0
  omega
theorem In.join {n : Int} {L M : List (Int × Int)} (hL : Nrm L) (h1 : In n L) (h2 : In n M) : In n (joinR L M) := fun x hx => by
  rcases (mem_join hL M x).1 hx with h | h
  · exact h1 x h
  · exact h2 x h
theorem In.take {n : Int} {M : List (Int × Int)} (h : In n M) (k : Nat) : In n (M.take k) := fun x ⟨r, hr, h1⟩ => h x ⟨r, List.mem_of_mem_take hr, h1⟩
theorem In.minus {n : Int} {L M : List (Int × Int)} (hM : Nrm M) (h : In n L) : In n (minusR L M) := fun x hx => h x ((mem_minus L hM x).1 hx).1
theorem In.nil (n : Int) : In n [] := fun x h => by simp [mem] at h
theorem add_nil {lo hi : Int} (h : lo ≤ hi) : addR [] lo hi = [(lo, hi)] := by unfold addR; rw [if_neg (by omega)]; simp [below, absorb]
theorem fin_set {w w2 : World} {r0 bp base : Nat} {v : Value} {L : List (Int × Int)} (hs : SetB w2 bp base v L) (hb : Below w.heap.size w w2) (hr : w.heap.size ≤ r0) (h2 : r0 < base) :
    Rn (w2.setCell ⟨r0, 0, none⟩ v) (fun k => k < w.heap.size) v L ∧ Below w.heap.size w (w2.setCell ⟨r0, 0, none⟩ v) := by
  refine ⟨?_, hb.setCell (p := ⟨r0, 0, none⟩) hr v⟩
  have h := hs.rn.out (Out.set (X := fun k => k = r0) w2 0 v rfl) (fun k _ e => by have e : k = r0 := e; show k < base; omega)
  exact h.weak fun k _ hk => by have hk : k < w.heap.size := hk; show k < base; omega
set_option maxHeartbeats 1000000 in
theorem span_any (lo hi : Int) (w : World) (hlo : -1000000 ≤ lo ∧ lo ≤ 1000000) (hhi : -1000000 ≤ hi ∧ hi ≤ 1000000) :
    Calls Tryd.prog 37 #[.int .i64 lo, .int .i64 hi] w fun e w' => ∃ a n c, e = .returned (.agg #[.slice a n c]) ∧ Rn w' (fun k => k < w.heap.size) (.slice a n c) (addR [] lo hi) ∧ Below w.heap.size w w' := by
  have hs := SetB.new (w.alloc (.cells #[.slice none 0 0] 61)) (n := w.heap.size + 1) (by simp)
  have hb1 : Below w.heap.size w ((w.alloc (.cells #[.slice none 0 0] 61)).alloc (.cells #[.slice none 0 0] 61)) := below2 w _ _
  have hr : ((w.alloc (.cells #[.slice none 0 0] 61)).alloc (.cells #[.slice none 0 0] 61)).heap[w.heap.size]? = some (.cells #[.slice none 0 0] 61 (0, 0)) := by
    have h := below_one (w.alloc (.cells #[.slice none 0 0] 61)) (.cells #[.slice none 0 0] 61)
    exact (h.block w.heap.size (by simp)).trans (heap_alloc_new w _)
  have HC := Lib.hid (add_any (w.heap.size + 1) (w.heap.size + 1 + 1) _ [] lo hi _ hs .nil (by simp) (fun r hr => by simp at hr) hlo hhi)
  have HR := Lib.hid hr
  clear hs hr
  go_enter Tryd.func37, Tryd.ntmps37
  go_wp2_with (go_at_call 50; refine HC.out.mono ?_; rintro e w2 ⟨rfl, v', hs2, ho2, hown2⟩; obtain ⟨a', c', rfl, hnc⟩ := hs2.2.1.form; have hc2 := hs2.cell; have hb2 : w2.heap[w.heap.size]? = some (.cells #[.slice none 0 0] 61 (0, 0)) := (ho2.block w.heap.size (by simp; omega) (by rintro (h | h); omega; simp [Value.ownBlock] at h)).trans HR.out; have hc3 : w2.cell? ⟨w.heap.size, 0, none⟩ = some (.slice none 0 0) := (cell_of_row w2 _ 0 _ _ _ hb2).trans rfl; have hf3 := frozen_row (j := 0) hb2)
  have hbB : Below w.heap.size w w2 := hb1.trans (ho2.to_below (fun k _ h => by rcases h with h | h; omega; simp [Value.ownBlock] at h) (by simp; omega))
  have hF := fin_set hs2 hbB (r0 := w.heap.size) (Nat.le_refl _) (by omega)
  exact bodyPost_ret (v := .agg #[.slice a' (addR [] lo hi).length c']) (by simp [results, Tryd.results37, go_sem, *]) rfl ⟨_, _, _, rfl, hF.1, hF.2⟩
set_option maxHeartbeats 4000000 in
theorem join_any (bp base : Nat) (v u : Value) (L M : List (Int × Int)) (n : Int) (w : World) (hs : SetB w bp base v L) (hL : Nrm L) (hLn : In n L) (hM : Nrm M) (hMn : In n M) (hn0 : 0 ≤ n) (hn : n ≤ 5000) (hu : Rn w (Priv bp v) u M) :
    Calls Tryd.prog 58 #[.pointer (some ⟨bp, 0, none⟩), .agg #[u]] w fun e w' => e = .returned (.tuple #[]) ∧ Added bp base v (joinR L M) w w' := by
  obtain ⟨a, c, rfl⟩ := hu.len
  have hsm := hMn.small hM hn0 hn
  have hb1 := below_one w (.cells #[.slice a M.length c] 61)
  have hu1 := hu.below hb1
  have hs1 := hs.below hb1
  have hlt := hs.lt
  go_enter Tryd.func58, Tryd.ntmps58
  go_wp2
  obtain ⟨w1, hw1⟩ : ∃ w1, w1 = w.alloc (.cells #[.slice a M.length c] 61) := ⟨_, rfl⟩
  rw [← hw1] at hb1 hu1 hs1 ⊢
  clear hw1
  have HS := Lib.hid hs1
  have HU := Lib.hid hu1
  clear hs1 hu hu1
  go_loopw [9] (fun x wr => ∃ k : Nat, x = .int .i64 k ∧ k ≤ M.length ∧ ∃ v', SetB wr bp base v' (joinR L (M.take k)) ∧ Out (Priv bp v) w1 wr ∧ ∀ g, v'.ownBlock = some g → v.ownBlock = some g ∨ w1.heap.size ≤ g) (fun x _ => M.length - (intOf x).toNat)
  case atStart => exact ⟨0, rfl, Nat.zero_le _, v, HS.out, Out.refl _ _, fun g e => .inl e⟩
  case round =>
    obtain ⟨k, rfl, hk, v', hsr, hor, hown⟩ := hrel
    have hur := HU.out.out hor (fun _ _ h => h)
    by_cases hkl : k < M.length
    · obtain ⟨b, o, c', e, _, hnb, hrow⟩ := hur.row (by omega)
      cases e
      obtain ⟨hx, hy⟩ := hrow k hkl
      clear hrow
      have hbd := hMn.run hM (List.getElem_mem hkl)
      have hJT := join_take L M k hkl
      have hbs : b < w1.heap.size := by
        obtain ⟨b2, o2, c2, e2, _, _, hrow2⟩ := HU.out.row (by omega)
        cases e2
        exact cell_lt (hrow2 k hkl).1
      obtain ⟨r1, hr1⟩ : ∃ z, M[k].1 = z := ⟨_, rfl⟩
      obtain ⟨r2, hr2⟩ : ∃ z, M[k].2 = z := ⟨_, rfl⟩
      rw [hr1, hr2] at hbd hJT
      rw [hr1] at hx
      rw [hr2] at hy
      clear hr1 hr2
      obtain ⟨J, hJ⟩ : ∃ J, J = joinR L (M.take k) := ⟨_, rfl⟩
      have hJN : Nrm J := by rw [hJ]; exact hL.join _
      have hJI : In n J := by rw [hJ]; exact hLn.join hL (hMn.take k)
      rw [← hJ] at hsr hJT
      clear hJ
      have hb2 := below_one wr (.cells #[.int .i64 r1, .int .i64 r2] 75)
      have hs2 := hsr.below hb2
      have HC := Lib.hid (add_any bp base v' J r1 r2 _ hs2 hJN (hJI.small hJN hn0 hn) (hJI.bd hJN hn) (by omega) (by omega))
      have HJT := Lib.hid hJT
      have hszr := hor.size
      clear hJT hbd hJN hJI hs2
      go_wp2_with (go_at_call 50; refine HC.out.mono ?_; rintro e w3 ⟨rfl, v3, hs3, ho3, hown3⟩)
      go_roundw
      case rel =>
        refine ⟨k + 1, num_succ k, by omega, v3, by rw [HJT.out]; exact hs3, ?_, ?_⟩
        · refine hor.comp ((Out.below hb2).trans ho3) (fun i hi h => ?_)
          rcases h with h | h
          · exact .inl h
          · rcases hown i h with h | h
            · exact .inr h
            · omega
        · intro g e
          rcases hown3 g e with h | h
          · exact hown g h
          · simp at h; exact .inr (by omega)
      case measure => simp [intOf]; omega
    · obtain rfl : k = M.length := by omega
      rw [List.take_length] at hsr
      go_wp2
      go_end0
      exact ⟨rfl, v', hsr, (Out.below hb1).trans hor, fun g e => (hown g e).imp id (fun h => by have := hb1.size; omega)⟩
end Go.Proofs.YtooaamepflkgnaaDoor
