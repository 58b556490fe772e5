/- Texts that a proof rests on: Contracts of slices.Insert and slices.Replace at rows of runs. | The contract of slices.Replace at rows of runs. -/
import Derived.Test.YtooaamepflkgnaaDoorN13
import Derived.StillTailTactics
set_option maxRecDepth 100000
namespace Go.Proofs.YtooaamepflkgnaaDoor
open Go.RowKit

theorem insert_any (base n i : Nat) (v : Value) (xs : List Value) (vb : Nat) (x y : Value) (w : World) (hi : i ≤ n) (hn : n < 1000000) (hown : w.ownsRow base 75 2 v n xs)
    (hvb : w.heap[vb]? = some (.cells #[x, y] 75 (0, 0))) (hne : v.ownBlock ≠ some vb) (hx : x.oneCell' = true) (hy : y.oneCell' = true) (hxs : ∀ v ∈ xs, v.oneCell' = true) (hbase : base ≤ w.heap.size) :
    Calls Tryd.prog 74 #[v, .int .i64 i, .slice (some ⟨vb, 0, none⟩) 1 1] w (Put base v (n + 1) (xs.take (i * 2) ++ ([x, y] ++ xs.drop (i * 2))) w) := by
  have hxl := hown.1
  rcases Nat.lt_or_ge i n with h | h
  · rcases hown.2 with ⟨_, h0⟩ | ⟨g, cap, cur, rfl, hbg, hg, hnc, hcm, hcs, htake⟩
    · omega
    · have hgv : g ≠ vb := fun e => hne (by simp [Value.ownBlock, e])
      have hg' : w.heap[g]? = some (.cells cur.toList.toArray 75 (0, 0)) := by simpa using hg
      rcases Nat.lt_or_ge n cap with hc | hc
      · exact insert_room base n i g cap xs cur.toList vb x y w h hn hxl hbg hg' hc hcm (by simpa using hcs) htake hvb (fun e => hgv e.symm) hx hy hxs
      · obtain rfl : cap = n := by omega
        exact insert_grow base cap i g xs cur.toList vb x y w h hn hxl hbase hg' htake hvb hx hy hxs
  · obtain rfl : i = n := by omega
    rw [take_all hxl, drop_all hxl, List.append_nil]
    exact insert_end base i v xs vb x y w hn hown hvb hx hy hbase
theorem take_splice {L cs : List Value} {off k : Nat} (h : k ≤ off) (hl : off ≤ L.length) : (splice L off cs).take k = L.take k := by
  unfold splice
  rw [List.take_append_of_le_length (by rw [List.length_take]; omega), List.take_take, Nat.min_eq_left h]
/-- What 'clear' runs as. -/
theorem run_clear2 {P : Program} {w : World} {dT elem ty : TypeId} (hu : P.underlying dT = some (.slice elem)) (z : Value) (hz : ∀ w, (zeroValue elem).run P w = .ok z w) (hzc : z.cells.size = 2) (hz1 : ∀ v ∈ z.cells, v.oneCell' = true)
    (dLen dCap : Nat) (g off : Nat) (cur : List Value) (t : TypeId) (hg : w.heap[g]? = some (.cells cur.toArray t (0, 0))) (hfit : off + dLen * 2 ≤ cur.length) (w0 : World) (hb : w0.grownBy w (some g)) :
    ∃ w' cs, (Builtin.clear_ #[dT] ty #[.slice (some ⟨g, off, none⟩) dLen dCap]).run P w = .ok (.tuple #[]) w' ∧ cs.length = dLen * 2 ∧ Hid (w'.heap[g]? = some (.cells (splice cur off cs).toArray t (0, 0))) ∧ w0.grownBy w' (some g) := by
  by_cases h0 : dLen = 0
  · subst h0
    exact ⟨w, [], by simp [Builtin.clear_, run_underlying hu], by simp, (show _ = _ by simpa [splice] using hg), hb⟩
  · obtain ⟨n, rfl⟩ : ∃ n, dLen = n + 1 := ⟨dLen - 1, by omega⟩
    have hl : (Builtin.zeroCells z.cells (n + 1)).toList.length = (n + 1) * 2 := by simp [Builtin.zeroCells, hzc]
    have h1 : ∀ v ∈ (Builtin.zeroCells z.cells (n + 1)).toList, v.oneCell' = true := by
      intro v hv
      simp only [Builtin.zeroCells, Array.toList_map, List.mem_map] at hv
      obtain ⟨i, _, rfl⟩ := hv
      refine hz1 _ ?_
      rw [getElem!_pos z.cells (i % z.cells.size) (Nat.mod_lt _ (by omega))]
      exact Array.getElem_mem _
    have hst := run_storeCells_at P g off t (Builtin.zeroCells z.cells (n + 1)).toList 0 cur.toArray w hg (by rw [hl]; simpa using hfit) h1
    refine ⟨w.setRow g (cur.take off ++ (Builtin.zeroCells z.cells (n + 1)).toList ++ cur.drop (off + (Builtin.zeroCells z.cells (n + 1)).toList.length)).toArray, (Builtin.zeroCells z.cells (n + 1)).toList, ?_, hl, (show _ = _ from ?_), grown_setRow hb _⟩
    · simp only [Nat.add_zero] at hst
      simp [Builtin.clear_, run_underlying hu, hz, hst]
    · have := setRow_heap w g cur.toArray (cur.take off ++ (Builtin.zeroCells z.cells (n + 1)).toList ++ cur.drop (off + (Builtin.zeroCells z.cells (n + 1)).toList.length)).toArray t _ hg
      simpa [splice] using this
set_option maxHeartbeats 4000000 in
/-- Nothing is taken out. -/
theorem replace_none (base n i : Nat) (v : Value) (xs : List Value) (vb : Nat) (x y : Value) (w : World) (hi : i ≤ n) (hn : n < 1000000) (hown : w.ownsRow base 75 2 v n xs)
    (hvb : w.heap[vb]? = some (.cells #[x, y] 75 (0, 0))) (hne : v.ownBlock ≠ some vb) (hx : x.oneCell' = true) (hy : y.oneCell' = true) (hxs : ∀ v ∈ xs, v.oneCell' = true) (hbase : base ≤ w.heap.size) :
    Calls Tryd.prog 65 #[v, .int .i64 i, .int .i64 i, .slice (some ⟨vb, 0, none⟩) 1 1] w (Put base v (n + 1) (xs.take (i * 2) ++ ([x, y] ++ xs.drop (i * 2))) w) := by
  have hform : ∃ a c, v = .slice a n c ∧ n ≤ c ∧ c ≤ maxLen := by
    rcases hown.2 with ⟨rfl, rfl⟩ | ⟨g, cap, cur, rfl, _, _, h1, h2, _⟩
    · exact ⟨none, 0, rfl, Nat.le_refl _, by decide⟩
    · exact ⟨_, _, rfl, h1, h2⟩
  have HC := Lib.hid (insert_any base n i v xs vb x y w hi hn hown hvb hne hx hy hxs hbase)
  clear hown hvb hne hx hy hxs
  obtain ⟨a, c, rfl, hnc, hcm⟩ := hform
  unfold maxLen at hcm
  go_enter Tryd.func65, Tryd.ntmps65
  go_wp2_with (go_at_call 74; refine HC.out.mono ?_; rintro e w' ⟨v', rfl, h1, h2, h3⟩)
  all_goals (go_ret; first | exact ⟨v', rfl, h1, h2, h3⟩ | (have e : c = i := (by omega); subst e; exact ⟨v', rfl, h1, h2, h3⟩))
set_option maxHeartbeats 4000000 in
/-- What is taken out reaches to the end. -/
theorem replace_end (base n i g cap : Nat) (xs : List Value) (cur : List Value) (vb : Nat) (x y : Value) (w : World) (hi : i < n) (hn : n < 1000000) (hxl : xs.length = n * 2) (hbg : base ≤ g)
    (hg : w.heap[g]? = some (.cells cur.toArray 75 (0, 0))) (hnc : n ≤ cap) (hcm : cap ≤ maxLen) (hcl : cur.length = cap * 2) (hct : cur.take (n * 2) = xs)
    (hvb : w.heap[vb]? = some (.cells #[x, y] 75 (0, 0))) (hx : x.oneCell' = true) (hy : y.oneCell' = true) :
    Calls Tryd.prog 65 #[.slice (some ⟨g, 0, none⟩) n cap, .int .i64 i, .int .i64 n, .slice (some ⟨vb, 0, none⟩) 1 1] w (Put base (.slice (some ⟨g, 0, none⟩) n cap) (i + 1) (xs.take (i * 2) ++ [x, y]) w) := by
  obtain ⟨i0, hi0, hz0, hz1, hz2⟩ := info_parts infoRun
  have hcm' := hcm
  unfold maxLen at hcm'
  obtain ⟨A, hA⟩ : ∃ A, A = xs.take (i * 2) := ⟨_, rfl⟩
  obtain ⟨Z, hZ⟩ : ∃ Z, cur = A ++ Z := ⟨cur.drop (i * 2), by rw [hA, ← hct, List.take_take, Nat.min_eq_left (by omega), List.take_append_drop]⟩
  have hAl : A.length = i * 2 := by rw [hA, List.length_take]; omega
  have hZl : Z.length = (cap - i) * 2 := by have := congrArg List.length hZ; rw [List.length_append] at this; omega
  obtain ⟨w1, hw1⟩ : ∃ w1, w1 = w.setRow g (cur.take (i * 2) ++ [x, y] ++ cur.drop (i * 2 + 2)).toArray := ⟨_, rfl⟩
  have hrun1 : ∀ ty, (Builtin.append_ #[59, 59] ty #[.slice (some ⟨g, 0, none⟩) i cap, .slice (some ⟨vb, 0, none⟩) 1 1]).run Tryd.prog w = .ok (.slice (some ⟨g, 0, none⟩) (i + 1) cap) w1 := fun ty => by
    have h := run_append_room (P := Tryd.prog) w 59 ty 75 i0 Tryd.underlying59 hi0 g i cap cur.toArray hg ⟨vb, 0, none⟩ 1 1 [x, y] (by rw [hz1]; rfl) (two_cells hvb) (by simp [hx, hy]) (by omega) (by rw [hz1]; simp; omega)
    rw [hz1] at h
    rw [hw1]
    simpa using h
  have hg1 : w1.heap[g]? = some (.cells (splice cur (i * 2) [x, y]).toArray 75 (0, 0)) := by
    rw [hw1]
    have := setRow_heap w g cur.toArray (cur.take (i * 2) ++ [x, y] ++ cur.drop (i * 2 + 2)).toArray 75 _ hg
    simpa [splice] using this
  have hb1 : w.grownBy w1 (some g) := by rw [hw1]; exact grown_setRow (grown_id w _) _
  have hl1 : (splice cur (i * 2) [x, y]).length = cap * 2 := (length_splice _ _ _ (by rw [hcl]; simp; omega)).trans hcl
  have hT : (splice cur (i * 2) [x, y]).take ((i + 1) * 2) = A ++ [x, y] := by
    have h := splice_grow A [] Z x y (by simp; omega)
    simp only [List.length_nil, Nat.add_zero, List.append_nil, hAl, splice] at h
    rw [show (i + 1) * 2 = i * 2 + 2 by omega, hZ]
    simpa [splice] using h
  obtain ⟨w2, cs, hrun2, hcs2, hg2, hb2⟩ := run_clear2 (P := Tryd.prog) (w := w1) (dT := 59) (ty := 0) Tryd.underlying59 _ zeroRun (by rfl) (by decide) (n - (i + 1)) (cap - (i + 1)) g ((i + 1) * 2) _ _ hg1 (by rw [hl1]; omega) w hb1
  rw [← hA]
  have HT := Lib.hid hT
  have HL := Lib.hid hl1
  have HG := Lib.hid hg1
  clear hw1 hA hZ hT hl1 hg1 hAl hZl
  have hk1 : ¬ (i : Int) = (n : Int) := by omega
  have hk2 : i ≤ n := by omega
  have hk3 : ¬ (cap = i) := by omega
  by_cases hin : i + 1 < n
  · have hk4 : ¬ (cap = i + 1) := by omega
    have hk5 : (i : Int) + 1 < (n : Int) := by omega
    go_enter Tryd.func65, Tryd.ntmps65
    go_wp2_with (at_builtin; refine Lib.wpList_append_run _ rfl _ _ _ _ rfl _ _ rfl rfl _ _ (hrun1 _) ?_)
    go_ret
    exact ⟨_, rfl, grown_row_own hg2.out hbg (by omega) hcm ((length_splice _ _ _ (by rw [hcs2, HL.out]; omega)).trans HL.out) ((take_splice (Nat.le_refl _) (by rw [HL.out]; omega)).trans HT.out), hb2, fun g' e => .inl e⟩
  · obtain rfl : n = i + 1 := by omega
    go_enter Tryd.func65, Tryd.ntmps65
    go_wp2_with (at_builtin; refine Lib.wpList_append_run _ rfl _ _ _ _ rfl _ _ rfl rfl _ _ (hrun1 _) ?_)
    go_ret
    exact ⟨_, rfl, grown_row_own HG.out hbg (by omega) hcm HL.out HT.out, hb1, fun g' e => .inl e⟩
end Go.Proofs.YtooaamepflkgnaaDoor
set_option maxRecDepth 100000
namespace Go.Proofs.YtooaamepflkgnaaDoor
open Go.RowKit

set_option maxHeartbeats 4000000 in
/-- What is taken out lies between. -/
theorem replace_mid (base n i j g cap : Nat) (xs : List Value) (cur : List Value) (vb : Nat) (x y : Value) (w : World) (hij : i < j) (hj : j < n) (hn : n < 1000000) (hxl : xs.length = n * 2) (hbg : base ≤ g)
    (hg : w.heap[g]? = some (.cells cur.toArray 75 (0, 0))) (hnc : n ≤ cap) (hcm : cap ≤ maxLen) (hcl : cur.length = cap * 2) (hct : cur.take (n * 2) = xs)
    (hvb : w.heap[vb]? = some (.cells #[x, y] 75 (0, 0))) (hx : x.oneCell' = true) (hy : y.oneCell' = true) (hxs : ∀ v ∈ xs, v.oneCell' = true) :
    Calls Tryd.prog 65 #[.slice (some ⟨g, 0, none⟩) n cap, .int .i64 i, .int .i64 j, .slice (some ⟨vb, 0, none⟩) 1 1] w (Put base (.slice (some ⟨g, 0, none⟩) n cap) (i + 1 + (n - j)) (xs.take (i * 2) ++ ([x, y] ++ xs.drop (j * 2))) w) := by
  have hcm' := hcm
  unfold maxLen at hcm'
  have hlt : g < w.heap.size := lt_of_block hg
  have hvl : vb < w.heap.size := lt_of_block hvb
  obtain ⟨A, hA⟩ : ∃ A, A = xs.take (i * 2) := ⟨_, rfl⟩
  obtain ⟨B, hB⟩ : ∃ B, B = xs.drop (j * 2) := ⟨_, rfl⟩
  obtain ⟨Z, hZ⟩ : ∃ Z, cur = A ++ Z := ⟨cur.drop (i * 2), by rw [hA, ← hct, List.take_take, Nat.min_eq_left (by omega), List.take_append_drop]⟩
  have hAl : A.length = i * 2 := by rw [hA, List.length_take]; omega
  have hBl : B.length = (n - j) * 2 := by rw [hB, List.length_drop]; omega
  have hZl : Z.length = (cap - i) * 2 := by have := congrArg List.length hZ; rw [List.length_append] at this; omega
  have hB1 : ∀ v ∈ B, v.oneCell' = true := fun v hv => hxs v (by rw [hB] at hv; exact List.mem_of_mem_drop hv)
  obtain ⟨w1, hrun1, hg1, hb1⟩ := run_copy2 (P := Tryd.prog) (w := w.drew) (dT := 59) (sT := 59) (ty := 3) Tryd.underlying59 sizeRun (some ⟨g, i * 2, none⟩) (some ⟨vb, 0, none⟩) (i + 1 + (n - j) - i) (cap - i) 1 1 g (i * 2) cur _ (show w.drew.heap[g]? = _ from hg) [x, y] (by simp only [Nat.min_def, List.length_cons, List.length_nil]; split <;> omega) (fun _ => ⟨rfl, _, rfl, two_cells (show w.drew.heap[vb]? = _ from hvb)⟩) (by rw [hcl]; simp; omega) (by simp [hx, hy]) w (grown_drew (grown_id w _))
  have hl1 : (splice cur (i * 2) [x, y]).length = cap * 2 := (length_splice _ _ _ (by rw [hcl]; simp; omega)).trans hcl
  have hBs1 : ∀ k v, B[k]? = some v → w1.cell? ((⟨g, j * 2, none⟩ : Addr).add k) = some v := fun k v hk => by
    rw [Addr.add_lit, cell_of_row w1 g _ _ _ _ hg1.out]
    have hkl : k < B.length := (List.getElem?_eq_some_iff.1 hk).1
    rw [hB, ← hct, List.getElem?_drop, List.getElem?_take] at hk
    rw [if_pos (by omega)] at hk
    simp only [List.getElem?_toArray, splice]
    rw [List.getElem?_append_right (by rw [List.length_take]; omega), List.getElem?_append_right (by simp only [List.length_take, List.length_cons, List.length_nil]; omega), List.getElem?_drop]
    rw [← hk]
    congr 1
    simp only [List.length_take, List.length_cons, List.length_nil]
    omega
  have hT : (splice (splice cur (i * 2) [x, y]) ((i + 1) * 2) B).take ((i + 1 + (n - j)) * 2) = A ++ ([x, y] ++ B) := by
    have h := splice_grow A B Z x y (by omega)
    rw [hAl, hBl] at h
    rw [show (i + 1) * 2 = i * 2 + 2 by omega, hZ, show (i + 1 + (n - j)) * 2 = i * 2 + 2 + (n - j) * 2 by omega]
    exact h
  rw [← hA, ← hB]
  have HT := Lib.hid hT
  have HL := Lib.hid hl1
  have HB := Lib.hid hBl
  clear hA hB hZ hT hl1 hAl hZl hBl hct hxl hxs
  have hk1 : ¬ (i : Int) = (j : Int) := by omega
  have hk2 : i ≤ j := by omega
  have hk3 : ¬ (cap = i) := by omega
  have hk4 : j ≤ n := by omega
  have hk5 : ¬ (j : Int) = (n : Int) := by omega
  have hk6 : ¬ (cap = j) := by omega
  have hk7 : i ≤ cap := by omega
  have hk8 : j ≤ cap := by omega
  have hk9 : i + 1 + (n - j) ≤ cap := by omega
  have hk10 : ¬ (cap = i + 1) := by omega
  have hk12 : i + 1 ≤ i + 1 + (n - j) := by omega
  have hk13 : i + 1 + (n - j) ≤ n := by omega
  have hk14 : i ≤ i + 1 + (n - j) := by omega
  have mixed : Tryd.prog.follows .mixedOrders = true := by kernel_rfl
  have hw1 : IntKind.i64.wrap ((i : Int) + 1) = (i : Int) + 1 := by rw [IntKind.wrap_i64]; omega
  have hb1' : (0 : Int) ≤ (i : Int) + 1 := by omega
  have htn : ((i : Int) + 1).toNat = i + 1 := by omega
  have hb3' : (i : Int) + 1 ≤ (i : Int) + 1 + ((n - j : Nat) : Int) := by omega
  have HCL := Lib.hid hcl
  by_cases htot : i + 1 + (n - j) < n
  · have hk11 : ¬ (cap = i + 1 + (n - j)) := by omega
    go_enter Tryd.func65, Tryd.ntmps65
    go_wp2
    go_region_law_o fail
    go_wp2
    all_goals
      go_region_law_o (refine step_copy2 rfl _ _ 59 59 rfl 75 Tryd.underlying59 sizeRun (some ⟨g, (i + 1) * 2, none⟩) (some ⟨g, j * 2, none⟩) (i + 1 + (n - j) - (i + 1)) (cap - (i + 1)) (n - j) (cap - j) (by simp [Act.eval, Act.put]) (by simp [Act.eval, Act.put]) g ((i + 1) * 2) (splice cur (i * 2) [x, y]) _ hg1.out B (by rw [HB.out]; simp only [Nat.min_def]; split <;> omega) (fun _ => ⟨rfl, _, rfl, hBs1⟩) (by rw [HB.out, HL.out]; omega) hB1 w (grown_drew hb1) ?_; intro w2 hg2 hb2)
      have hl2 : (splice (splice cur (i * 2) [x, y]) ((i + 1) * 2) B).length = cap * 2 := (length_splice _ _ _ (by rw [HB.out, HL.out]; omega)).trans HL.out
      have HL2 := Lib.hid hl2
      obtain ⟨w3, cs, hrun3, hcs3, hg3, hb3⟩ := run_clear2 (P := Tryd.prog) (w := w2) (dT := 59) (ty := 0) Tryd.underlying59 _ zeroRun (by rfl) (by decide) (n - (i + 1 + (n - j))) (cap - (i + 1 + (n - j))) g ((i + 1 + (n - j)) * 2) _ _ hg2.out (by rw [hl2]; omega) w hb2
      clear hl2
      go_wp2
      go_ret
      exact ⟨_, rfl, grown_row_own hg3.out hbg hk9 hcm ((length_splice _ _ _ (by rw [hcs3, HL2.out]; omega)).trans HL2.out) ((take_splice (Nat.le_refl _) (by rw [HL2.out]; omega)).trans HT.out), hb3, fun g' e => .inl e⟩
  · have hz0 : n - (i + 1 + (n - j)) = 0 := by omega
    go_enter Tryd.func65, Tryd.ntmps65
    go_wp2
    go_region_law_o fail
    go_wp2
    all_goals
      go_region_law_o (refine step_copy2 rfl _ _ 59 59 rfl 75 Tryd.underlying59 sizeRun (some ⟨g, (i + 1) * 2, none⟩) (some ⟨g, j * 2, none⟩) (i + 1 + (n - j) - (i + 1)) (cap - (i + 1)) (n - j) (cap - j) (by simp [Act.eval, Act.put]) (by simp [Act.eval, Act.put]) g ((i + 1) * 2) (splice cur (i * 2) [x, y]) _ hg1.out B (by rw [HB.out]; simp only [Nat.min_def]; split <;> omega) (fun _ => ⟨rfl, _, rfl, hBs1⟩) (by rw [HB.out, HL.out]; omega) hB1 w (grown_drew hb1) ?_; intro w2 hg2 hb2)
      have hl2 : (splice (splice cur (i * 2) [x, y]) ((i + 1) * 2) B).length = cap * 2 := (length_splice _ _ _ (by rw [HB.out, HL.out]; omega)).trans HL.out
      have HL2 := Lib.hid hl2
      clear hl2
      have hclr : ∀ o c, (Builtin.clear_ #[59] 0 #[.slice (some ⟨g, o, none⟩) 0 c]).run Tryd.prog w2 = .ok (.tuple #[]) w2 := fun o c => by simp [Builtin.clear_, run_underlying Tryd.underlying59]
      go_wp2
      all_goals (go_ret; first | exact ⟨_, rfl, grown_row_own hg2.out hbg hk9 hcm HL2.out HT.out, hb2, fun g' e => .inl e⟩ | (have e : cap = i + 1 + (n - j) := (by omega); subst e; exact ⟨_, rfl, grown_row_own hg2.out hbg (Nat.le_refl _) hcm HL2.out HT.out, hb2, fun g' e => .inl e⟩))
theorem replace_any (base n i j : Nat) (v : Value) (xs : List Value) (vb : Nat) (x y : Value) (w : World) (hij : i ≤ j) (hj : j ≤ n) (hn : n < 1000000) (hown : w.ownsRow base 75 2 v n xs)
    (hvb : w.heap[vb]? = some (.cells #[x, y] 75 (0, 0))) (hne : v.ownBlock ≠ some vb) (hx : x.oneCell' = true) (hy : y.oneCell' = true) (hxs : ∀ v ∈ xs, v.oneCell' = true) (hbase : base ≤ w.heap.size) :
    Calls Tryd.prog 65 #[v, .int .i64 i, .int .i64 j, .slice (some ⟨vb, 0, none⟩) 1 1] w (Put base v (i + 1 + (n - j)) (xs.take (i * 2) ++ ([x, y] ++ xs.drop (j * 2))) w) := by
  have hxl := hown.1
  rcases Nat.lt_or_ge i j with h | h
  · rcases hown.2 with ⟨_, h0⟩ | ⟨g, cap, cur, rfl, hbg, hg, hnc, hcm, hcs, htake⟩
    · omega
    · have hg' : w.heap[g]? = some (.cells cur.toList.toArray 75 (0, 0)) := by simpa using hg
      rcases Nat.lt_or_ge j n with hc | hc
      · exact replace_mid base n i j g cap xs cur.toList vb x y w h hc hn hxl hbg hg' hnc hcm (by simpa using hcs) htake hvb hx hy hxs
      · obtain rfl : j = n := by omega
        rw [drop_all hxl, List.append_nil, Nat.sub_self, Nat.add_zero]
        exact replace_end base j i g cap xs cur.toList vb x y w h hn hxl hbg hg' hnc hcm (by simpa using hcs) htake hvb hx hy
  · obtain rfl : i = j := by omega
    rw [show i + 1 + (n - i) = n + 1 by omega]
    exact replace_none base n i v xs vb x y w hj hn hown hvb hne hx hy hxs hbase
end Go.Proofs.YtooaamepflkgnaaDoor
