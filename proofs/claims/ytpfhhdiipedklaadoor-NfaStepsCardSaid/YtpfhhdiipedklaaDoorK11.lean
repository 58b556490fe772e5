/- Texts that a proof rests on: Contracts of the builder: one step more; the new builder. | The new builder. -/
import Derived.Test.YtpfhhdiipedklaaDoorK10
import Derived.MapKept
import Derived.Carry
import Derived.Deep.CutRange
set_option maxRecDepth 100000
namespace Go.Proofs.YtpfhhdiipedklaaDoor
open Go.RowKit

theorem infoPr : (Tryd.prog.info? 75).map (fun i => (i.zero, i.size, i.bytes)) = some (some (.agg #[.int .i64 0, .int .i64 0]), 2, 16) := by kernel_rfl
theorem infoArc : (Tryd.prog.info? 78).map (fun i => (i.zero, i.size, i.bytes)) = some (some (.agg #[.int .i64 0, .int .i64 0, .int .u64 0, .int .u64 0, .int .u64 0, .int .u64 0]), 6, 48) := by kernel_rfl
theorem new_one (w : World) (o : Obj) : Below w.heap.size w (w.alloc o) := (Below.refl _ _).alloc (Nat.le_refl _) _
theorem news_in {w : World} {vb : Nat} {cs : Array Value} {t : TypeId} (hvb : w.heap[vb]? = some (.cells cs t (0, 0))) : ∀ j u, cs.toList[j]? = some u → w.cell? ((⟨vb, 0, none⟩ : Addr).add j) = some u := by
  intro j u hj
  exact World.news_of_block hvb j u (by simpa using hj)
set_option maxHeartbeats 2000000 in
theorem eps_any (w0 : World) (bb bv mb : Nat) (m : Mach) (x y : Nat) (w : World) (h : St w0 bb bv mb m w) (hb : m.e.length < 100000) :
    Calls Tryd.prog 50 #[ptr bb, .int .i64 x, .int .i64 y] w fun e w' => e = .returned (.tuple #[]) ∧ Hid (St w0 bb bv mb (m.eps x y) w') ∧ Hid (Keep w w') := by
  obtain ⟨ve, va, hS⟩ := h
  obtain ⟨i0, hi0, hz0, hz1, hz2⟩ := info_parts infoPr
  have HI := Lib.hid (And.intro hi0 (And.intro hz0 (And.intro hz1 hz2)))
  obtain ⟨c0, c1, c2, c5, _⟩ := hS.cells
  have HS := Lib.hid hS
  have HRA := Lib.hid (row_keep (w' := w.alloc (.cells #[.int .i64 x, .int .i64 y] 75)) hS.re fun g cs _ h1 => (heap_alloc_old w _ (lt_of_block h1)).trans h1)
  have hlo := hS.below.size
  obtain ⟨B, hB⟩ : ∃ B, w0.heap.size = B := ⟨_, rfl⟩
  rw [hB] at HRA hlo
  clear hS hi0 hz0 hz1 hz2
  go_enter Tryd.func50, Tryd.ntmps50
  go_wp2_with (at_builtin; refine wpList_append_lies _ rfl _ _ 24 rfl B 75 i0 (.agg #[.int .i64 0, .int .i64 0]) 2 16 Tryd.underlying24 HI.out.1 HI.out.2.1 HI.out.2.2.1 HI.out.2.2.2 rfl (by decide) ve m.e.length (flE m.e) rfl HRA.out ⟨w.heap.size, 0, none⟩ 1 1 [.int .i64 x, .int .i64 y] rfl rfl (news_in (cs := #[.int .i64 x, .int .i64 y]) (heap_alloc_new w _)) (by simp [Value.oneCell']) (by omega) (by unfold maxLen; omega) (by omega) (by simp; omega) (w.heap.size + 1) (by simp) ?_; intro g cap2 w8 h2 h3 h4 h5; obtain ⟨c8, f8, hst, hkp⟩ := HS.out.push_e (x := x) (y := y) (new_one w _) h3 (by rw [hB]; exact h2) rfl (flE_snoc _ _ _).symm; have HST := Lib.hid (And.intro hst hkp); clear h2 h3 h4 h5 hst hkp)
  go_end0
  exact ⟨rfl, Lib.hid HST.out.1, Lib.hid HST.out.2⟩
end Go.Proofs.YtpfhhdiipedklaaDoor
set_option maxRecDepth 100000
namespace Go.Proofs.YtpfhhdiipedklaaDoor
open Go.RowKit

/-- A map's block, set. -/
def setMap (w : World) (r : Nat) (es : Array MapEntry) (c : Nat) : World := { w with heap := w.heap.setIfInBounds r (.map es c) }
theorem setMap_new (w : World) (r : Nat) (es es' : Array MapEntry) (c c' : Nat) (h : w.heap[r]? = some (.map es c)) : (setMap w r es' c').heap[r]? = some (.map es' c') := by
  have hl := lt_of_block h
  simp [setMap, hl]
theorem setMap_below {B : Nat} {w0 w : World} {r : Nat} (es : Array MapEntry) (c : Nat) (h : Below B w0 w) (hr : B ≤ r) : Below B w0 (setMap w r es c) :=
  ⟨h.os, h.tape, h.output, by simp [setMap]; exact h.size, fun k hk => by
    have hne : r ≠ k := by omega
    have := h.block k hk
    simp only [setMap, Array.getElem?_setIfInBounds]
    rw [if_neg hne]
    exact this⟩
theorem put_new {w : World} {t k e : TypeId} {d : TypeDesc} {r c : Nat} {es : Array MapEntry} {key val : Value} (hm : Tryd.prog.underlying t = some (.map k e)) (hk : Tryd.prog.underlying k = some d) (hi : MapKept.IsKey d key)
    (hb : w.heap[r]? = some (.map es c)) (hf : Instr.findNow d key es.toList 0 = some none) : (Instr.mapUpdate t (.map (some r)) key val).run Tryd.prog w = .ok () (setMap w r (es.push { key := key, val := val, born := c }) (c + 1)) := by
  simp [Instr.mapUpdate, run_underlying hm, MapKept.run_getObj_map hb, MapKept.run_checkKey hk hi, MapKept.run_findKey hk hf, MapKept.run_setObj_map _ hb, Result.andThen, setMap]
set_option maxHeartbeats 2000000 in
theorem newBuilder_any (w : World) :
    Calls Tryd.prog 25 #[] w fun e w' => ∃ bb bv mb, e = .returned (ptr bb) ∧ Hid (St w bb bv mb ⟨0, [], []⟩ w') := by
  have hmf : ∀ (fn : Fn) (first cap : Array Value) (w : World), (Instr.makeFunc fn first cap).run Tryd.prog w = .ok (.func fn first cap) w := fun _ _ _ _ => rfl
  obtain ⟨N, hN⟩ : ∃ N, w.heap.size = N := ⟨_, rfl⟩
  have hs3 : ((w.alloc (.cells #[.int .i64 0, .slice none 0 0, .slice none 0 0, .int .i64 0, .int .i64 0, .map none] 66)).alloc (.cells #[ptr N] 59)).heap.size = N + 2 := by simp [hN]
  have hb3 : Below N w ((w.alloc (.cells #[.int .i64 0, .slice none 0 0, .slice none 0 0, .int .i64 0, .int .i64 0, .map none] 66)).alloc (.cells #[ptr N] 59)) := by rw [← hN]; exact below2 w _ _
  have hx3 : ((w.alloc (.cells #[.int .i64 0, .slice none 0 0, .slice none 0 0, .int .i64 0, .int .i64 0, .map none] 66)).alloc (.cells #[ptr N] 59)).heap[N]? = some (.cells #[.int .i64 0, .slice none 0 0, .slice none 0 0, .int .i64 0, .int .i64 0, .map none] 66 (0, 0)) := by
    rw [heap_alloc_old _ _ (by simp; omega), ← hN]; exact heap_alloc_new w _
  have hv3 : ((w.alloc (.cells #[.int .i64 0, .slice none 0 0, .slice none 0 0, .int .i64 0, .int .i64 0, .map none] 66)).alloc (.cells #[ptr N] 59)).heap[N + 1]? = some (.cells #[ptr N] 59 (0, 0)) := by
    have := heap_alloc_new (w.alloc (.cells #[.int .i64 0, .slice none 0 0, .slice none 0 0, .int .i64 0, .int .i64 0, .map none] 66)) (.cells #[ptr N] 59)
    rw [World.size_alloc, hN] at this
    exact this
  go_enter Tryd.func25, Tryd.ntmps25
  go_upto_region 6 with fail
  generalize hw3 : (w.alloc (.cells #[.int .i64 0, .slice none 0 0, .slice none 0 0, .int .i64 0, .int .i64 0, .map none] 66)).alloc (.cells #[ptr N] 59) = w3 at *
  clear hw3
  have hmm := run_makeMap (P := Tryd.prog) 64 w3
  have hm := Tryd.underlying64
  have hk : Tryd.prog.underlying 3 = some (.int .i64) := Tryd.underlying3
  rw [hs3] at hmm
  have b0 : (w3.alloc (.map #[] 0)).heap[N + 2]? = some (.map #[] 0) := by rw [← hs3]; exact heap_alloc_new w3 _
  have u1 : (Instr.mapUpdate 64 (.map (some (N + 2))) (.int .i64 0) (clo 46 (N + 1))).run Tryd.prog (w3.alloc (.map #[] 0)) = .ok () (setMap (w3.alloc (.map #[] 0)) (N + 2) #[{ key := .int .i64 0, val := clo 46 (N + 1), born := 0 }] 1) := put_new (key := .int .i64 0) (val := clo 46 (N + 1)) hm hk rfl b0 rfl
  have b1 : (setMap (w3.alloc (.map #[] 0)) (N + 2) #[{ key := .int .i64 0, val := clo 46 (N + 1), born := 0 }] 1).heap[N + 2]? = some (.map #[{ key := .int .i64 0, val := clo 46 (N + 1), born := 0 }] 1) := setMap_new _ _ _ _ _ _ b0
  have q1 : Below (N + 2) w3 (setMap (w3.alloc (.map #[] 0)) (N + 2) #[{ key := .int .i64 0, val := clo 46 (N + 1), born := 0 }] 1) := setMap_below _ _ ((Below.refl _ _).alloc (by omega) _) (Nat.le_refl _)
  have u2 : (Instr.mapUpdate 64 (.map (some (N + 2))) (.int .i64 1) (clo 48 (N + 1))).run Tryd.prog (setMap (w3.alloc (.map #[] 0)) (N + 2) #[{ key := .int .i64 0, val := clo 46 (N + 1), born := 0 }] 1) = .ok () (setMap (setMap (w3.alloc (.map #[] 0)) (N + 2) #[{ key := .int .i64 0, val := clo 46 (N + 1), born := 0 }] 1) (N + 2) #[{ key := .int .i64 0, val := clo 46 (N + 1), born := 0 }, { key := .int .i64 1, val := clo 48 (N + 1), born := 1 }] 2) := put_new (key := .int .i64 1) (val := clo 48 (N + 1)) hm hk rfl b1 rfl
  have b2 : (setMap (setMap (w3.alloc (.map #[] 0)) (N + 2) #[{ key := .int .i64 0, val := clo 46 (N + 1), born := 0 }] 1) (N + 2) #[{ key := .int .i64 0, val := clo 46 (N + 1), born := 0 }, { key := .int .i64 1, val := clo 48 (N + 1), born := 1 }] 2).heap[N + 2]? = some (.map #[{ key := .int .i64 0, val := clo 46 (N + 1), born := 0 }, { key := .int .i64 1, val := clo 48 (N + 1), born := 1 }] 2) := setMap_new _ _ _ _ _ _ b1
  have q2 : Below (N + 2) w3 (setMap (setMap (w3.alloc (.map #[] 0)) (N + 2) #[{ key := .int .i64 0, val := clo 46 (N + 1), born := 0 }] 1) (N + 2) #[{ key := .int .i64 0, val := clo 46 (N + 1), born := 0 }, { key := .int .i64 1, val := clo 48 (N + 1), born := 1 }] 2) := setMap_below _ _ q1 (Nat.le_refl _)
  have u3 : (Instr.mapUpdate 64 (.map (some (N + 2))) (.int .i64 2) (clo 51 (N + 1))).run Tryd.prog (setMap (setMap (w3.alloc (.map #[] 0)) (N + 2) #[{ key := .int .i64 0, val := clo 46 (N + 1), born := 0 }] 1) (N + 2) #[{ key := .int .i64 0, val := clo 46 (N + 1), born := 0 }, { key := .int .i64 1, val := clo 48 (N + 1), born := 1 }] 2) = .ok () (setMap (setMap (setMap (w3.alloc (.map #[] 0)) (N + 2) #[{ key := .int .i64 0, val := clo 46 (N + 1), born := 0 }] 1) (N + 2) #[{ key := .int .i64 0, val := clo 46 (N + 1), born := 0 }, { key := .int .i64 1, val := clo 48 (N + 1), born := 1 }] 2) (N + 2) #[{ key := .int .i64 0, val := clo 46 (N + 1), born := 0 }, { key := .int .i64 1, val := clo 48 (N + 1), born := 1 }, { key := .int .i64 2, val := clo 51 (N + 1), born := 2 }] 3) := put_new (key := .int .i64 2) (val := clo 51 (N + 1)) hm hk rfl b2 rfl
  have b3 : (setMap (setMap (setMap (w3.alloc (.map #[] 0)) (N + 2) #[{ key := .int .i64 0, val := clo 46 (N + 1), born := 0 }] 1) (N + 2) #[{ key := .int .i64 0, val := clo 46 (N + 1), born := 0 }, { key := .int .i64 1, val := clo 48 (N + 1), born := 1 }] 2) (N + 2) #[{ key := .int .i64 0, val := clo 46 (N + 1), born := 0 }, { key := .int .i64 1, val := clo 48 (N + 1), born := 1 }, { key := .int .i64 2, val := clo 51 (N + 1), born := 2 }] 3).heap[N + 2]? = some (.map #[{ key := .int .i64 0, val := clo 46 (N + 1), born := 0 }, { key := .int .i64 1, val := clo 48 (N + 1), born := 1 }, { key := .int .i64 2, val := clo 51 (N + 1), born := 2 }] 3) := setMap_new _ _ _ _ _ _ b2
  have q3 : Below (N + 2) w3 (setMap (setMap (setMap (w3.alloc (.map #[] 0)) (N + 2) #[{ key := .int .i64 0, val := clo 46 (N + 1), born := 0 }] 1) (N + 2) #[{ key := .int .i64 0, val := clo 46 (N + 1), born := 0 }, { key := .int .i64 1, val := clo 48 (N + 1), born := 1 }] 2) (N + 2) #[{ key := .int .i64 0, val := clo 46 (N + 1), born := 0 }, { key := .int .i64 1, val := clo 48 (N + 1), born := 1 }, { key := .int .i64 2, val := clo 51 (N + 1), born := 2 }] 3) := setMap_below _ _ q2 (Nat.le_refl _)
  have u4 : (Instr.mapUpdate 64 (.map (some (N + 2))) (.int .i64 3) (clo 52 (N + 1))).run Tryd.prog (setMap (setMap (setMap (w3.alloc (.map #[] 0)) (N + 2) #[{ key := .int .i64 0, val := clo 46 (N + 1), born := 0 }] 1) (N + 2) #[{ key := .int .i64 0, val := clo 46 (N + 1), born := 0 }, { key := .int .i64 1, val := clo 48 (N + 1), born := 1 }] 2) (N + 2) #[{ key := .int .i64 0, val := clo 46 (N + 1), born := 0 }, { key := .int .i64 1, val := clo 48 (N + 1), born := 1 }, { key := .int .i64 2, val := clo 51 (N + 1), born := 2 }] 3) = .ok () (setMap (setMap (setMap (setMap (w3.alloc (.map #[] 0)) (N + 2) #[{ key := .int .i64 0, val := clo 46 (N + 1), born := 0 }] 1) (N + 2) #[{ key := .int .i64 0, val := clo 46 (N + 1), born := 0 }, { key := .int .i64 1, val := clo 48 (N + 1), born := 1 }] 2) (N + 2) #[{ key := .int .i64 0, val := clo 46 (N + 1), born := 0 }, { key := .int .i64 1, val := clo 48 (N + 1), born := 1 }, { key := .int .i64 2, val := clo 51 (N + 1), born := 2 }] 3) (N + 2) #[{ key := .int .i64 0, val := clo 46 (N + 1), born := 0 }, { key := .int .i64 1, val := clo 48 (N + 1), born := 1 }, { key := .int .i64 2, val := clo 51 (N + 1), born := 2 }, { key := .int .i64 3, val := clo 52 (N + 1), born := 3 }] 4) := put_new (key := .int .i64 3) (val := clo 52 (N + 1)) hm hk rfl b3 rfl
  have b4 : (setMap (setMap (setMap (setMap (w3.alloc (.map #[] 0)) (N + 2) #[{ key := .int .i64 0, val := clo 46 (N + 1), born := 0 }] 1) (N + 2) #[{ key := .int .i64 0, val := clo 46 (N + 1), born := 0 }, { key := .int .i64 1, val := clo 48 (N + 1), born := 1 }] 2) (N + 2) #[{ key := .int .i64 0, val := clo 46 (N + 1), born := 0 }, { key := .int .i64 1, val := clo 48 (N + 1), born := 1 }, { key := .int .i64 2, val := clo 51 (N + 1), born := 2 }] 3) (N + 2) #[{ key := .int .i64 0, val := clo 46 (N + 1), born := 0 }, { key := .int .i64 1, val := clo 48 (N + 1), born := 1 }, { key := .int .i64 2, val := clo 51 (N + 1), born := 2 }, { key := .int .i64 3, val := clo 52 (N + 1), born := 3 }] 4).heap[N + 2]? = some (.map #[{ key := .int .i64 0, val := clo 46 (N + 1), born := 0 }, { key := .int .i64 1, val := clo 48 (N + 1), born := 1 }, { key := .int .i64 2, val := clo 51 (N + 1), born := 2 }, { key := .int .i64 3, val := clo 52 (N + 1), born := 3 }] 4) := setMap_new _ _ _ _ _ _ b3
  have q4 : Below (N + 2) w3 (setMap (setMap (setMap (setMap (w3.alloc (.map #[] 0)) (N + 2) #[{ key := .int .i64 0, val := clo 46 (N + 1), born := 0 }] 1) (N + 2) #[{ key := .int .i64 0, val := clo 46 (N + 1), born := 0 }, { key := .int .i64 1, val := clo 48 (N + 1), born := 1 }] 2) (N + 2) #[{ key := .int .i64 0, val := clo 46 (N + 1), born := 0 }, { key := .int .i64 1, val := clo 48 (N + 1), born := 1 }, { key := .int .i64 2, val := clo 51 (N + 1), born := 2 }] 3) (N + 2) #[{ key := .int .i64 0, val := clo 46 (N + 1), born := 0 }, { key := .int .i64 1, val := clo 48 (N + 1), born := 1 }, { key := .int .i64 2, val := clo 51 (N + 1), born := 2 }, { key := .int .i64 3, val := clo 52 (N + 1), born := 3 }] 4) := setMap_below _ _ q3 (Nat.le_refl _)
  have x5 := (q4.block N (by omega)).trans hx3
  have v5 := (q4.block (N + 1) (by omega)).trans hv3
  have c1 : w3.cell? ⟨N + 1, 0, none⟩ = some (ptr N) := (cell_of_row _ _ 0 _ _ _ hv3).trans rfl
  have c5 := cell_of_row _ _ 5 _ _ _ x5
  simp only [List.getElem?_toArray] at c5
  have f5 := free_cells (j := 5) x5
  have c6 : (setMap (setMap (setMap (setMap (w3.alloc (.map #[] 0)) (N + 2) #[{ key := .int .i64 0, val := clo 46 (N + 1), born := 0 }] 1) (N + 2) #[{ key := .int .i64 0, val := clo 46 (N + 1), born := 0 }, { key := .int .i64 1, val := clo 48 (N + 1), born := 1 }] 2) (N + 2) #[{ key := .int .i64 0, val := clo 46 (N + 1), born := 0 }, { key := .int .i64 1, val := clo 48 (N + 1), born := 1 }, { key := .int .i64 2, val := clo 51 (N + 1), born := 2 }] 3) (N + 2) #[{ key := .int .i64 0, val := clo 46 (N + 1), born := 0 }, { key := .int .i64 1, val := clo 48 (N + 1), born := 1 }, { key := .int .i64 2, val := clo 51 (N + 1), born := 2 }, { key := .int .i64 3, val := clo 52 (N + 1), born := 3 }] 4).cell? ⟨N + 1, 0, none⟩ = some (ptr N) := (cell_of_row _ _ 0 _ _ _ v5).trans rfl
  have HX5 := Lib.hid x5
  have HV5 := Lib.hid v5
  have HB4 := Lib.hid b4
  have HQ4 := Lib.hid q4
  have HB3 := Lib.hid hb3
  have HFIN : Hid (St w N (N + 1) (N + 2) ⟨0, [], []⟩ ((setMap (setMap (setMap (setMap (w3.alloc (.map #[] 0)) (N + 2) #[{ key := .int .i64 0, val := clo 46 (N + 1), born := 0 }] 1) (N + 2) #[{ key := .int .i64 0, val := clo 46 (N + 1), born := 0 }, { key := .int .i64 1, val := clo 48 (N + 1), born := 1 }] 2) (N + 2) #[{ key := .int .i64 0, val := clo 46 (N + 1), born := 0 }, { key := .int .i64 1, val := clo 48 (N + 1), born := 1 }, { key := .int .i64 2, val := clo 51 (N + 1), born := 2 }] 3) (N + 2) #[{ key := .int .i64 0, val := clo 46 (N + 1), born := 0 }, { key := .int .i64 1, val := clo 48 (N + 1), born := 1 }, { key := .int .i64 2, val := clo 51 (N + 1), born := 2 }, { key := .int .i64 3, val := clo 52 (N + 1), born := 3 }] 4).setCell ⟨N, 5, none⟩ (.map (some (N + 2))))) := Lib.hid (by
    refine ⟨.slice none 0 0, .slice none 0 0, ⟨?_, ?_, ?_, ?_, ?_, World.ownsRow_nil _ _ _ _, World.ownsRow_nil _ _ _ _⟩⟩
    · rw [hN]
      exact (hb3.trans (q4.mono (by omega))).setCell (p := ⟨N, 5, none⟩) (Nat.le_refl N) _
    · omega
    · rw [setCell_block x5]; rfl
    · rw [Below.heap_setCell _ _ _ _ (by show N + 1 ≠ N; omega)]; exact v5
    · rw [Below.heap_setCell _ _ _ _ (by show N + 2 ≠ N; omega)]; exact b4)
  clear b0 b1 b2 b3 b4 q1 q2 q3 q4 x5 v5 hb3 hx3 hv3
  go_wp2
  go_ret
  exact ⟨N, N + 1, N + 2, rfl, HFIN⟩
end Go.Proofs.YtpfhhdiipedklaaDoor
