/- Texts that a proof rests on: Contracts of the function that parse defers. | Contract of pattern.parse. | Contract of pattern.Parse at texts of at most 20000 bytes without long rows of digits. -/
import Derived.Test.YtkpfpegjapddfaaGreatDoorK18
import Derived.Defers
import Derived.Recover
set_option maxHeartbeats 1000000
set_option maxRecDepth 20000
namespace Go.Proofs.YtkpfpegjapddfaaGreatDoor
open Go.RowKit

/-- The results' variables as the deferred function leaves them. -/
def caught (w : World) (bn be ba i : Nat) : World := (((((((((((w.alloc (.cells #[.int .i64 i] 96)).setCell ⟨bn, 0, none⟩ (.int .i64 0)).setCell ⟨bn, 1, none⟩ (.int .u64 0)).setCell ⟨bn, 2, none⟩ (.int .u64 0)).setCell ⟨bn, 3, none⟩ (.int .u64 0)).setCell ⟨bn, 4, none⟩ (.int .u64 0)).setCell ⟨bn, 5, none⟩ (.int .i64 0)).setCell ⟨bn, 6, none⟩ (.int .i64 0)).setCell ⟨bn, 7, none⟩ (.slice none 0 0)).setCell ⟨be, 0, none⟩ (.int .i64 30)).setCell ⟨ba, 0, none⟩ (.int .i64 i)).drew
theorem problem_is (v : Value) (w : World) : (Instr.typeAssert (.iface 96 v) 20 96 true).run Tryz.prog w = .ok (.tuple #[v, .bool true]) w := by kernel_rfl
theorem problem_not (w : World) : (Instr.typeAssert .nilIface 20 96 true).run Tryz.prog w = .ok (.tuple #[.agg #[.int .i64 0], .bool false]) w := by kernel_rfl
theorem slots_of (a b c p v t z q : Value) : #[a, b, c] ++ (((((((Array.replicate 11 undef).setIfInBounds 3 z).setIfInBounds 4 t).setIfInBounds 2 t).setIfInBounds 5 v).setIfInBounds 6 q).setIfInBounds 0 p).setIfInBounds 1 q = #[a, b, c, p, q, t, z, t, v, q, undef, undef, undef, undef] := by
  apply Array.ext'
  simp [List.replicate]
theorem catch_panic (w : World) (bn be ba i : Nat) (hb1 : bn ≠ be) (hb2 : be ≠ ba) (hb3 : bn ≠ ba) (u0 u1 u2 u3 u4 u5 u6 u7 v1 v2 : Value) (h0 : Box w bn #[u0, u1, u2, u3, u4, u5, u6, u7]) (h1 : w.heap[be]? = some (.cells #[v1] 34)) (h2 : w.heap[ba]? = some (.cells #[v2] 3)) (older : List PanicEntry) :
    CallsD Tryz.prog 66 #[.pointer (some ⟨bn, 0, none⟩), .pointer (some ⟨be, 0, none⟩), .pointer (some ⟨ba, 0, none⟩)] (.panicking ({ v := .iface 96 (.agg #[.int .i64 i]), recovered := false } :: older)) w fun e u' w' =>
      e = .returned (.tuple #[]) ∧ u' = .panicking ({ v := .iface 96 (.agg #[.int .i64 i]), recovered := true } :: older) ∧ w' = caught w bn be ba i := by
  refine callsD_of_wpS Tryz.func66 rfl fun c₀ cs hu => ?_
  apply wpS_seq
  apply wpS_region
  simp [wpOpsS, go_sem, recoverD, hu, Tryz.ntmps66, Exit.thenS, problem_is]
  obtain ⟨v, hv⟩ : ∃ v : Value, Value.agg #[.int .i64 i] = v := ⟨_, rfl⟩
  rw [hv]
  refine wpS_of_wp ?_
  rw [slots_of]
  unfold caught
  obtain ⟨w1, hw1⟩ : ∃ z, z = w.alloc (.cells #[.int .i64 i] 96) := ⟨_, rfl⟩
  rw [← hw1]
  have hal : Below w.heap.size w w1 := hw1 ▸ (Below.refl _ _).alloc (Nat.le_refl _) _
  have hw : w1.cell? ⟨w.heap.size, 0, none⟩ = some (.int .i64 i) := by rw [hw1]; simp
  have hn := h0.below hal
  obtain ⟨x0, x1, x2, x3, x4, x5, x6, x7⟩ := Box.cells hn
  obtain ⟨y0, y1, y2, y3, y4, y5, y6, y7⟩ := Box.frees hn
  have l1 : be < w.heap.size := (Array.getElem?_eq_some_iff.1 h1).1
  have l2 : ba < w.heap.size := (Array.getElem?_eq_some_iff.1 h2).1
  have l0 := h0.lt
  have g1 : w1.heap[be]? = some (.cells #[v1] 34) := (hal.block be l1).trans h1
  have g2 : w1.heap[ba]? = some (.cells #[v2] 3) := (hal.block ba l2).trans h2
  have s1 : w1.cell? ⟨be, 0, none⟩ = some v1 := by simp [World.cell?, g1]
  have s2 : w1.cell? ⟨ba, 0, none⟩ = some v2 := by simp [World.cell?, g2]
  have z1 : w1.frozen? ⟨be, 0, none⟩ = false := by simp [World.frozen?, g1]
  have z2 : w1.frozen? ⟨ba, 0, none⟩ = false := by simp [World.frozen?, g2]
  have n1 : w.heap.size ≠ bn := by omega
  have n2 : w.heap.size ≠ be := by omega
  have n3 : w.heap.size ≠ ba := by omega
  clear hal hv h0 h1 h2 g1 g2 hn
  clear hw1
  go_wp2
  go_region
  show bodyPostS _ _ _ _ _ _ _ _ _
  simp [bodyPostS, results, Tryz.results66]
theorem catch_none (w : World) (bn be ba : Nat) :
    CallsD Tryz.prog 66 #[.pointer (some ⟨bn, 0, none⟩), .pointer (some ⟨be, 0, none⟩), .pointer (some ⟨ba, 0, none⟩)] .returning w fun e u' w' =>
      e = .returned (.tuple #[]) ∧ u' = .returning ∧ w' = w.alloc (.cells #[.int .i64 0] 96) := by
  refine callsD_of_wpS Tryz.func66 rfl fun c₀ cs hu => ?_
  apply wpS_seq
  apply wpS_region
  simp [wpOpsS, go_sem, recoverD, hu, Tryz.ntmps66, Exit.thenS, problem_not]
  refine wpS_of_wp ?_
  show Code.wp _ _ _ { tmps := #[.pointer (some ⟨bn, 0, none⟩), .pointer (some ⟨be, 0, none⟩), .pointer (some ⟨ba, 0, none⟩), .pointer (some ⟨w.heap.size, 0, none⟩), .bool false, .tuple #[.agg #[.int .i64 0], .bool false], .nilIface, .tuple #[.agg #[.int .i64 0], .bool false], .agg #[.int .i64 0], .bool false, undef, undef, undef, undef], defers := [] } _
  go_wp2
  cases c₀
  simp_all [bodyPostS, results, Tryz.results66]
end Go.Proofs.YtkpfpegjapddfaaGreatDoor
set_option maxRecDepth 20000
namespace Go.Proofs.YtkpfpegjapddfaaGreatDoor
open Go.RowKit

/-- What parse leaves. -/
def ParsePost (s : ByteArray) (w : World) (e : Ending) (w' : World) : Prop := match wholeR s with
  | .ok p => ∃ a c, e = .returned (.tuple #[(.agg #[.int .i64 p.op, .int .u64 (wd p.set 0), .int .u64 (wd p.set 1), .int .u64 (wd p.set 2), .int .u64 (wd p.set 3), .int .i64 p.lo, .int .i64 p.hi, .slice a p.kids.length c]), .int .i64 0, .int .i64 0]) ∧ KidsN w' w.heap.size p.kids (.slice a p.kids.length c) ∧ Below w.heap.size w w'
  | .error d => e = .returned (.tuple #[.agg #[.int .i64 0, .int .u64 0, .int .u64 0, .int .u64 0, .int .u64 0, .int .i64 0, .int .i64 0, .slice none 0 0], .int .i64 30, .int .i64 d]) ∧ Below w.heap.size w w'
theorem below_of_grown {B b : Nat} {w w5 w6 : World} (h : Below B w w5) (hg : w5.grownBy w6 (some b)) (hb : B ≤ b) (hB : B ≤ w5.heap.size) : Below B w w6 :=
  ⟨hg.os.trans h.os, hg.tape.trans h.tape, hg.output.trans h.output, Nat.le_trans h.size hg.size, fun k hk => (hg.block k (by omega) (by simp; omega)).trans (h.block k hk)⟩
/-- The blocks of parse's results. -/
structure Three (w : World) (n : Nat) : Prop where
  box : Box w n z8
  err : w.heap[n + 1]? = some (.cells #[.int .i64 0] 34)
  at_ : w.heap[n + 1 + 1]? = some (.cells #[.int .i64 0] 3)
theorem Three.keep {w w' : World} {n b : Nat} (h : Three w n) (hg : w.grownBy w' (some b)) (hb : n + 3 ≤ b) : Three w' n :=
  ⟨h.box.keep hg (by omega), (hg.block _ (lt_of_block h.err) (by simp; omega)).trans h.err, (hg.block _ (lt_of_block h.at_) (by simp; omega)).trans h.at_⟩
theorem parse_start (s : ByteArray) (w w4 : World) (hL : Lay w) (hop : w4.heap[w.heap.size + 1 + 1 + 1]? = some (.map opsMap 3)) (hb4 : Below (w.heap.size + 1 + 1 + 1) (((w.alloc (.cells #[.int .i64 0, .int .u64 0, .int .u64 0, .int .u64 0, .int .u64 0, .int .i64 0, .int .i64 0, .slice none 0 0] 28)).alloc (.cells #[.int .i64 0] 34)).alloc (.cells #[.int .i64 0] 3)) w4) :
    PX (w4.alloc (.cells #[.string s, .int .i64 0, .int .i64 0, .map (some (w.heap.size + 1 + 1 + 1))] 99)) w4.heap.size s 0 0 (w.heap.size + 1 + 1 + 1) ∧ w.heap.size + 1 + 1 + 1 ≠ w4.heap.size ∧ Lo w4.heap.size ∧ Three (w4.alloc (.cells #[.string s, .int .i64 0, .int .i64 0, .map (some (w.heap.size + 1 + 1 + 1))] 99)) w.heap.size ∧ Below w.heap.size w (w4.alloc (.cells #[.string s, .int .i64 0, .int .i64 0, .map (some (w.heap.size + 1 + 1 + 1))] 99)) ∧ w.heap.size + 3 ≤ w4.heap.size := by
  have hlt : w.heap.size + 1 + 1 + 1 < w4.heap.size := lt_of_block hop
  have a3 : Below w.heap.size w (((w.alloc (.cells #[.int .i64 0, .int .u64 0, .int .u64 0, .int .u64 0, .int .u64 0, .int .i64 0, .int .i64 0, .slice none 0 0] 28)).alloc (.cells #[.int .i64 0] 34)).alloc (.cells #[.int .i64 0] 3)) := (((Below.refl _ _).alloc (Nat.le_refl _) _).alloc (by simp) _).alloc (by simp; omega) _
  have h3 : (((w.alloc (.cells #[.int .i64 0, .int .u64 0, .int .u64 0, .int .u64 0, .int .u64 0, .int .i64 0, .int .i64 0, .slice none 0 0] 28)).alloc (.cells #[.int .i64 0] 34)).alloc (.cells #[.int .i64 0] 3)).heap.size = w.heap.size + 1 + 1 + 1 := by simp
  have a4 : Below w.heap.size w w4 := ⟨hb4.os.trans a3.os, hb4.tape.trans a3.tape, hb4.output.trans a3.output, by omega, fun k hk => (hb4.block k (by omega)).trans (a3.block k hk)⟩
  have a5 : Below w4.heap.size w4 (w4.alloc (.cells #[.string s, .int .i64 0, .int .i64 0, .map (some (w.heap.size + 1 + 1 + 1))] 99)) := (Below.refl _ _).alloc (Nat.le_refl _) _
  have a6 : Below w.heap.size w (w4.alloc (.cells #[.string s, .int .i64 0, .int .i64 0, .map (some (w.heap.size + 1 + 1 + 1))] 99)) := ⟨a5.os.trans a4.os, a5.tape.trans a4.tape, a5.output.trans a4.output, Nat.le_trans a4.size a5.size, fun k hk => (a5.block k (by omega)).trans (a4.block k hk)⟩
  have hT : Three (((w.alloc (.cells #[.int .i64 0, .int .u64 0, .int .u64 0, .int .u64 0, .int .u64 0, .int .i64 0, .int .i64 0, .slice none 0 0] 28)).alloc (.cells #[.int .i64 0] 34)).alloc (.cells #[.int .i64 0] 3)) w.heap.size := ⟨((Box.new w _ rfl).alloc _).alloc _, by
    have := heap_alloc_new (w.alloc (.cells #[.int .i64 0, .int .u64 0, .int .u64 0, .int .u64 0, .int .u64 0, .int .i64 0, .int .i64 0, .slice none 0 0] 28)) (.cells #[.int .i64 0] 34)
    have h1 : (w.alloc (.cells #[.int .i64 0, .int .u64 0, .int .u64 0, .int .u64 0, .int .u64 0, .int .i64 0, .int .i64 0, .slice none 0 0] 28)).heap.size = w.heap.size + 1 := by simp
    rw [h1] at this
    exact (((Below.refl _ _).alloc (Nat.le_refl _) _).block _ (lt_of_block this)).trans this, by
    have := heap_alloc_new ((w.alloc (.cells #[.int .i64 0, .int .u64 0, .int .u64 0, .int .u64 0, .int .u64 0, .int .i64 0, .int .i64 0, .slice none 0 0] 28)).alloc (.cells #[.int .i64 0] 34)) (.cells #[.int .i64 0] 3)
    have h1 : ((w.alloc (.cells #[.int .i64 0, .int .u64 0, .int .u64 0, .int .u64 0, .int .u64 0, .int .i64 0, .int .i64 0, .slice none 0 0] 28)).alloc (.cells #[.int .i64 0] 34)).heap.size = w.heap.size + 1 + 1 := by simp
    rw [h1] at this
    exact this⟩
  have hT5 : Three (w4.alloc (.cells #[.string s, .int .i64 0, .int .i64 0, .map (some (w.heap.size + 1 + 1 + 1))] 99)) w.heap.size := ⟨(hT.box.lower hb4 (by omega)).alloc _, (a5.block _ (by omega)).trans ((hb4.block _ (by omega)).trans hT.err), (a5.block _ (by omega)).trans ((hb4.block _ (by omega)).trans hT.at_)⟩
  refine ⟨⟨heap_alloc_new w4 _, (a5.block _ hlt).trans hop, hL.below a6, Nat.zero_le _⟩, by omega, ?_, hT5, a6, by omega⟩
  obtain ⟨⟨l1, _⟩, ⟨l2, _⟩, l3, _⟩ := hL
  exact ⟨by omega, by omega, by omega⟩
theorem Three.box8 {w : World} {n : Nat} (h : Three w n) : Box w n #[.int .i64 0, .int .u64 0, .int .u64 0, .int .u64 0, .int .u64 0, .int .i64 0, .int .i64 0, .slice none 0 0] := h.box
theorem Three.two {w : World} {n : Nat} (h : Three w n) : w.cell? ⟨n + 1, 0, none⟩ = some (.int .i64 0) ∧ w.cell? ⟨n + 1 + 1, 0, none⟩ = some (.int .i64 0) ∧ w.frozen? ⟨n + 1, 0, none⟩ = false ∧ w.frozen? ⟨n + 1 + 1, 0, none⟩ = false := by
  refine ⟨?_, ?_, ?_, ?_⟩
  · simp [World.cell?, h.err]
  · simp [World.cell?, h.at_]
  · simp [World.frozen?, h.err]
  · simp [World.frozen?, h.at_]
theorem caught_reads (w : World) (n i : Nat) (h : Three w n) :
    (caught w n (n + 1) (n + 1 + 1) i).cell? ⟨n, 0, none⟩ = some (.int .i64 0) ∧ (caught w n (n + 1) (n + 1 + 1) i).cell? ⟨n, 1, none⟩ = some (.int .u64 0) ∧ (caught w n (n + 1) (n + 1 + 1) i).cell? ⟨n, 2, none⟩ = some (.int .u64 0) ∧ (caught w n (n + 1) (n + 1 + 1) i).cell? ⟨n, 3, none⟩ = some (.int .u64 0) ∧ (caught w n (n + 1) (n + 1 + 1) i).cell? ⟨n, 4, none⟩ = some (.int .u64 0) ∧ (caught w n (n + 1) (n + 1 + 1) i).cell? ⟨n, 5, none⟩ = some (.int .i64 0) ∧ (caught w n (n + 1) (n + 1 + 1) i).cell? ⟨n, 6, none⟩ = some (.int .i64 0) ∧ (caught w n (n + 1) (n + 1 + 1) i).cell? ⟨n, 7, none⟩ = some (.slice none 0 0) ∧ (caught w n (n + 1) (n + 1 + 1) i).cell? ⟨n + 1, 0, none⟩ = some (.int .i64 30) ∧ (caught w n (n + 1) (n + 1 + 1) i).cell? ⟨n + 1 + 1, 0, none⟩ = some (.int .i64 i) := by
  have hal : Below w.heap.size w (w.alloc (.cells #[.int .i64 i] 96)) := (Below.refl _ _).alloc (Nat.le_refl _) _
  unfold caught
  obtain ⟨w1, hw1⟩ : ∃ z, z = w.alloc (.cells #[.int .i64 i] 96) := ⟨_, rfl⟩
  rw [← hw1] at hal
  rw [← hw1]
  obtain ⟨x0, x1, x2, x3, x4, x5, x6, x7⟩ := Box.cells (show Box w1 n #[.int .i64 0, .int .u64 0, .int .u64 0, .int .u64 0, .int .u64 0, .int .i64 0, .int .i64 0, .slice none 0 0] from h.box.below hal)
  have s1 : w1.cell? ⟨n + 1, 0, none⟩ = some (.int .i64 0) := by simp [World.cell?, (hal.block _ (lt_of_block h.err)).trans h.err]
  have s2 : w1.cell? ⟨n + 1 + 1, 0, none⟩ = some (.int .i64 0) := by simp [World.cell?, (hal.block _ (lt_of_block h.at_)).trans h.at_]
  clear hal hw1
  refine ⟨?_, ?_, ?_, ?_, ?_, ?_, ?_, ?_, ?_, ?_⟩ <;> simp [go_sem, *]
theorem caught_below {B : Nat} {w w6 : World} (n i : Nat) (h : Below B w w6) (hB : B ≤ n) (hn : n + 3 ≤ w6.heap.size) : Below B w (caught w6 n (n + 1) (n + 1 + 1) i) := by
  have h1 := h.alloc (o := .cells #[.int .i64 i] 96) (by omega)
  have h2 := below_of_grown h1 (set8_go _ n (.int .i64 0) (.int .u64 0) (.int .u64 0) (.int .u64 0) (.int .u64 0) (.int .i64 0) (.int .i64 0) (.slice none 0 0)) hB (by simp; omega)
  have h3 := below_of_grown h2 (go_set _ (n + 1) 0 (.int .i64 30)) (by omega) (by simp; omega)
  have h4 := below_of_grown h3 (go_set _ (n + 1 + 1) 0 (.int .i64 i)) (by omega) (by simp; omega)
  unfold caught
  generalize World.setCell _ _ _ = z at h4 ⊢
  exact ⟨h4.os, h4.tape, h4.output, h4.size, h4.block⟩
/-- The results' variables, written. -/
def laid (w : World) (n : Nat) (u0 u1 u2 u3 u4 u5 u6 u7 e a : Value) : World := (((((((((w.setCell ⟨n, 0, none⟩ u0).setCell ⟨n, 1, none⟩ u1).setCell ⟨n, 2, none⟩ u2).setCell ⟨n, 3, none⟩ u3).setCell ⟨n, 4, none⟩ u4).setCell ⟨n, 5, none⟩ u5).setCell ⟨n, 6, none⟩ u6).setCell ⟨n, 7, none⟩ u7).setCell ⟨n + 1, 0, none⟩ e).setCell ⟨n + 1 + 1, 0, none⟩ a
theorem laid_reads (w : World) (n : Nat) (u0 u1 u2 u3 u4 u5 u6 u7 e a : Value) (h : Three w n) :
    (laid w n u0 u1 u2 u3 u4 u5 u6 u7 e a).cell? ⟨n, 0, none⟩ = some u0 ∧ (laid w n u0 u1 u2 u3 u4 u5 u6 u7 e a).cell? ⟨n, 1, none⟩ = some u1 ∧ (laid w n u0 u1 u2 u3 u4 u5 u6 u7 e a).cell? ⟨n, 2, none⟩ = some u2 ∧ (laid w n u0 u1 u2 u3 u4 u5 u6 u7 e a).cell? ⟨n, 3, none⟩ = some u3 ∧ (laid w n u0 u1 u2 u3 u4 u5 u6 u7 e a).cell? ⟨n, 4, none⟩ = some u4 ∧ (laid w n u0 u1 u2 u3 u4 u5 u6 u7 e a).cell? ⟨n, 5, none⟩ = some u5 ∧ (laid w n u0 u1 u2 u3 u4 u5 u6 u7 e a).cell? ⟨n, 6, none⟩ = some u6 ∧ (laid w n u0 u1 u2 u3 u4 u5 u6 u7 e a).cell? ⟨n, 7, none⟩ = some u7 ∧ (laid w n u0 u1 u2 u3 u4 u5 u6 u7 e a).cell? ⟨n + 1, 0, none⟩ = some e ∧ (laid w n u0 u1 u2 u3 u4 u5 u6 u7 e a).cell? ⟨n + 1 + 1, 0, none⟩ = some a := by
  unfold laid
  obtain ⟨x0, x1, x2, x3, x4, x5, x6, x7⟩ := Box.cells h.box8
  obtain ⟨s1, s2, _, _⟩ := h.two
  clear h
  refine ⟨?_, ?_, ?_, ?_, ?_, ?_, ?_, ?_, ?_, ?_⟩ <;> simp [go_sem, *]
theorem laid_below {B : Nat} {w w6 : World} (n : Nat) (u0 u1 u2 u3 u4 u5 u6 u7 e a : Value) (h : Below B w w6) (hB : B ≤ n) (hn : n + 3 ≤ w6.heap.size) : Below B w (laid w6 n u0 u1 u2 u3 u4 u5 u6 u7 e a) := by
  have h2 := below_of_grown h (set8_go _ n u0 u1 u2 u3 u4 u5 u6 u7) hB (by omega)
  have h3 := below_of_grown h2 (go_set _ (n + 1) 0 e) (by omega) (by simp; omega)
  exact below_of_grown h3 (go_set _ (n + 1 + 1) 0 a) (by omega) (by simp; omega)
theorem laid_kids {w : World} {lo n : Nat} {l : List Pat} {ks : Value} (h : KidsN w lo l ks) (hn : n + 2 < lo) (u0 u1 u2 u3 u4 u5 u6 u7 e a : Value) : KidsN (laid w n u0 u1 u2 u3 u4 u5 u6 u7 e a) lo l ks :=
  ((h.set8 (by omega) _ _ _ _ _ _ _ _).set1 (by omega) _).set1 (by omega) _
theorem laid_size (w : World) (n : Nat) (u0 u1 u2 u3 u4 u5 u6 u7 e a : Value) : (laid w n u0 u1 u2 u3 u4 u5 u6 u7 e a).heap.size = w.heap.size := by simp [laid]
set_option maxHeartbeats 2000000 in
theorem parse_any (s : ByteArray) (hs : s.size ≤ 20000) (hf : Few s) (w : World) (hL : Lay w) :
    Calls Tryz.prog 40 #[.string s] w fun e w' => ParsePost s w e w' := by
  have hmf : ∀ (fn : Fn) (first cap : Array Value) (w : World), (Instr.makeFunc fn first cap).run Tryz.prog w = .ok (.func fn first cap) w := fun _ _ _ _ => rfl
  have h3 : (((w.alloc (.cells #[.int .i64 0, .int .u64 0, .int .u64 0, .int .u64 0, .int .u64 0, .int .i64 0, .int .i64 0, .slice none 0 0] 28)).alloc (.cells #[.int .i64 0] 34)).alloc (.cells #[.int .i64 0] 3)).heap.size = w.heap.size + 1 + 1 + 1 := by simp
  rcases hr : wholeR s with d | p
  · unfold ParsePost
    rw [hr]
    go_enter_defers Tryz.func40, Tryz.ntmps40
    go_wp2_with (first | (go_at_call 41; refine (operators_any _).mono ?_; rintro e w4 ⟨rfl, hop, hb4⟩; rw [h3] at hop hb4; obtain ⟨p1, p2, p3, p4, p5, p6⟩ := parse_start s w w4 hL hop hb4) | (go_at_call 67; refine (whole_text s _ _ hs p2 p3 hf _ p1).mono ?_; unfold WholePost; rw [hr]; rintro e w6 ⟨rfl, hg6⟩; have t6 := p4.keep hg6 p6))
    have hb6 := below_of_grown p5 hg6 (by omega) (by have := p5.size; omega)
    have hs6 := hg6.size
    have hs5 := p1.1.lt
    refine leaves_cons (f := 66) (args := #[.pointer (some ⟨w.heap.size, 0, none⟩), .pointer (some ⟨w.heap.size + 1, 0, none⟩), .pointer (some ⟨w.heap.size + 1 + 1, 0, none⟩)]) (by simp) (by simp [go_sem]) ?_
    refine (catch_panic w6 w.heap.size (w.heap.size + 1) (w.heap.size + 1 + 1) d (by omega) (by omega) (by omega) _ _ _ _ _ _ _ _ _ _ t6.box t6.err t6.at_ []).mono ?_
    rintro e u' w'' ⟨rfl, rfl, rfl⟩
    obtain ⟨c0, c1, c2, c3, c4, c5, c6, c7, c8, c9⟩ := caught_reads w6 w.heap.size d t6
    have hbc := caught_below w.heap.size d hb6 (Nat.le_refl _) (by omega)
    obtain ⟨w7, hw7⟩ : ∃ z, z = caught w6 w.heap.size (w.heap.size + 1) (w.heap.size + 1 + 1) d := ⟨_, rfl⟩
    rw [← hw7] at c0 c1 c2 c3 c4 c5 c6 c7 c8 c9 hbc
    rw [← hw7]
    simp [Leaves, settle, results, Tryz.results40, go_sem, c0, c1, c2, c3, c4, c5, c6, c7, c8, c9, hbc]
  · unfold ParsePost
    rw [hr]
    go_enter_defers Tryz.func40, Tryz.ntmps40
    go_wp2_with (first | (go_at_call 41; refine (operators_any _).mono ?_; rintro e w4 ⟨rfl, hop, hb4⟩; rw [h3] at hop hb4; obtain ⟨p1, p2, p3, p4, p5, p6⟩ := parse_start s w w4 hL hop hb4) | (go_at_call 67; refine (whole_text s _ _ hs p2 p3 hf _ p1).mono ?_; unfold WholePost; rw [hr]; rintro e w6 ⟨a6, c6, rfl, hk6, hg6⟩; have t6 := p4.keep hg6 p6; obtain ⟨x0, x1, x2, x3, x4, x5, x6, x7⟩ := Box.cells (t6.box8); obtain ⟨y0, y1, y2, y3, y4, y5, y6, y7⟩ := Box.frees t6.box; obtain ⟨s1, s2, r1, r2⟩ := t6.two))
    have hb6 := below_of_grown p5 hg6 (by omega) (by have := p5.size; omega)
    have hs6 := hg6.size
    have hs5 := p1.1.lt
    obtain ⟨c0, c1, c2, c3, c4, c5, c6', c7, c8, c9⟩ := laid_reads w6 w.heap.size (.int .i64 p.op) (.int .u64 (wd p.set 0)) (.int .u64 (wd p.set 1)) (.int .u64 (wd p.set 2)) (.int .u64 (wd p.set 3)) (.int .i64 p.lo) (.int .i64 p.hi) (.slice a6 p.kids.length c6) (.int .i64 0) (.int .i64 0) t6
    have hbl := laid_below w.heap.size (.int .i64 p.op) (.int .u64 (wd p.set 0)) (.int .u64 (wd p.set 1)) (.int .u64 (wd p.set 2)) (.int .u64 (wd p.set 3)) (.int .i64 p.lo) (.int .i64 p.hi) (.slice a6 p.kids.length c6) (.int .i64 0) (.int .i64 0) hb6 (Nat.le_refl _) (by omega)
    have hkl := laid_kids hk6 (n := w.heap.size) (by omega) (.int .i64 p.op) (.int .u64 (wd p.set 0)) (.int .u64 (wd p.set 1)) (.int .u64 (wd p.set 2)) (.int .u64 (wd p.set 3)) (.int .i64 p.lo) (.int .i64 p.hi) (.slice a6 p.kids.length c6) (.int .i64 0) (.int .i64 0)
    have hsl := laid_size w6 w.heap.size (.int .i64 p.op) (.int .u64 (wd p.set 0)) (.int .u64 (wd p.set 1)) (.int .u64 (wd p.set 2)) (.int .u64 (wd p.set 3)) (.int .i64 p.lo) (.int .i64 p.hi) (.slice a6 p.kids.length c6) (.int .i64 0) (.int .i64 0)
    refine leaves_cons (f := 66) (args := #[.pointer (some ⟨w.heap.size, 0, none⟩), .pointer (some ⟨w.heap.size + 1, 0, none⟩), .pointer (some ⟨w.heap.size + 1 + 1, 0, none⟩)]) (by simp) (by simp [go_sem]) ?_
    refine (catch_none (laid w6 w.heap.size (.int .i64 p.op) (.int .u64 (wd p.set 0)) (.int .u64 (wd p.set 1)) (.int .u64 (wd p.set 2)) (.int .u64 (wd p.set 3)) (.int .i64 p.lo) (.int .i64 p.hi) (.slice a6 p.kids.length c6) (.int .i64 0) (.int .i64 0)) w.heap.size (w.heap.size + 1) (w.heap.size + 1 + 1)).mono ?_
    rintro e u' w'' ⟨rfl, rfl, rfl⟩
    obtain ⟨w7, hw7⟩ : ∃ z, z = laid w6 w.heap.size (.int .i64 p.op) (.int .u64 (wd p.set 0)) (.int .u64 (wd p.set 1)) (.int .u64 (wd p.set 2)) (.int .u64 (wd p.set 3)) (.int .i64 p.lo) (.int .i64 p.hi) (.slice a6 p.kids.length c6) (.int .i64 0) (.int .i64 0) := ⟨_, rfl⟩
    rw [← hw7] at c0 c1 c2 c3 c4 c5 c6' c7 c8 c9 hbl hkl hsl
    rw [← hw7]
    have hal : Below w7.heap.size w7 (w7.alloc (.cells #[.int .i64 0] 96)) := (Below.refl _ _).alloc (Nat.le_refl _) _
    have hb8 := hbl.alloc (o := .cells #[.int .i64 0] 96) (by omega)
    have hk8 := hkl.below hal
    have d0 := cell_below hal c0
    have d1 := cell_below hal c1
    have d2 := cell_below hal c2
    have d3 := cell_below hal c3
    have d4 := cell_below hal c4
    have d5 := cell_below hal c5
    have d6 := cell_below hal c6'
    have d7 := cell_below hal c7
    have d8 := cell_below hal c8
    have d9 := cell_below hal c9
    clear hw7 c0 c1 c2 c3 c4 c5 c6' c7 c8 c9
    exact ⟨.tuple #[(.agg #[.int .i64 p.op, .int .u64 (wd p.set 0), .int .u64 (wd p.set 1), .int .u64 (wd p.set 2), .int .u64 (wd p.set 3), .int .i64 p.lo, .int .i64 p.hi, .slice a6 p.kids.length c6]), .int .i64 0, .int .i64 0], by simp [results, Tryz.results40, go_sem, d0, d1, d2, d3, d4, d5, d6, d7, d8, d9], a6, c6, rfl, hk8.mono (by simp; omega), hb8⟩
end Go.Proofs.YtkpfpegjapddfaaGreatDoor
set_option maxRecDepth 20000
namespace Go.Proofs.YtkpfpegjapddfaaGreatDoor
open Go.RowKit

set_option maxHeartbeats 2000000 in
theorem parse_text (s : ByteArray) (hs : s.size ≤ 20000) (hf : Few s) (w : World) (hL : Lay w) :
    Calls Tryz.prog 14 #[.string s] w fun e w' => ParsePost s w e w' := by
  have hal : Below w.heap.size w (w.alloc (.cells #[.int .i64 0, .int .u64 0, .int .u64 0, .int .u64 0, .int .u64 0, .int .i64 0, .int .i64 0, .slice none 0 0] 28)) := (Below.refl _ _).alloc (Nat.le_refl _) _
  have hbx := Box.new w z8 rfl
  have hL1 := hL.below hal
  have h7 : (w.alloc (.cells #[.int .i64 0, .int .u64 0, .int .u64 0, .int .u64 0, .int .u64 0, .int .i64 0, .int .i64 0, .slice none 0 0] 28)).heap.size = w.heap.size + 1 := by simp
  have hgt : ¬ ((s.size : Int) > 65536) := by omega
  rcases hr : wholeR s with d | p
  · unfold ParsePost
    rw [hr]
    go_enter Tryz.func14, Tryz.ntmps14
    go_wp2_with (first | (go_at_call 40; refine (parse_any s hs hf _ hL1).mono ?_; unfold ParsePost; rw [hr]; rintro e w2 ⟨rfl, hb2⟩; have hx2 := hbx.below hb2; obtain ⟨x0, x1, x2, x3, x4, x5, x6, x7⟩ := Box.cells (show Box w2 w.heap.size #[.int .i64 0, .int .u64 0, .int .u64 0, .int .u64 0, .int .u64 0, .int .i64 0, .int .i64 0, .slice none 0 0] from hx2); obtain ⟨y0, y1, y2, y3, y4, y5, y6, y7⟩ := Box.frees hx2; have hb3 : Below w.heap.size w w2 := ⟨hb2.os.trans hal.os, hb2.tape.trans hal.tape, hb2.output.trans hal.output, Nat.le_trans hal.size hb2.size, fun k hk => (hb2.block k (Nat.lt_of_lt_of_le hk hal.size)).trans (hal.block k hk)⟩; have hs2 := hb2.size; have hs3 := hb3.size))
    exact bodyPost_ret (v := .tuple #[.agg #[.int .i64 0, .int .u64 0, .int .u64 0, .int .u64 0, .int .u64 0, .int .i64 0, .int .i64 0, .slice none 0 0], .int .i64 30, .int .i64 d]) (by simp [results, Tryz.results14, go_sem, *]) rfl ⟨rfl, below_set8 hb3 (Nat.le_refl _) _ _ _ _ _ _ _ _⟩
  · unfold ParsePost
    rw [hr]
    go_enter Tryz.func14, Tryz.ntmps14
    go_wp2_with (first | (go_at_call 40; refine (parse_any s hs hf _ hL1).mono ?_; unfold ParsePost; rw [hr]; rintro e w2 ⟨a2, c2, rfl, hk2, hb2⟩; have hx2 := hbx.below hb2; obtain ⟨x0, x1, x2, x3, x4, x5, x6, x7⟩ := Box.cells (show Box w2 w.heap.size #[.int .i64 0, .int .u64 0, .int .u64 0, .int .u64 0, .int .u64 0, .int .i64 0, .int .i64 0, .slice none 0 0] from hx2); obtain ⟨y0, y1, y2, y3, y4, y5, y6, y7⟩ := Box.frees hx2; have hb3 : Below w.heap.size w w2 := ⟨hb2.os.trans hal.os, hb2.tape.trans hal.tape, hb2.output.trans hal.output, Nat.le_trans hal.size hb2.size, fun k hk => (hb2.block k (Nat.lt_of_lt_of_le hk hal.size)).trans (hal.block k hk)⟩; have hs2 := hb2.size; have hs3 := hb3.size))
    exact bodyPost_ret (v := .tuple #[(.agg #[.int .i64 p.op, .int .u64 (wd p.set 0), .int .u64 (wd p.set 1), .int .u64 (wd p.set 2), .int .u64 (wd p.set 3), .int .i64 p.lo, .int .i64 p.hi, .slice a2 p.kids.length c2]), .int .i64 0, .int .i64 0]) (by simp [results, Tryz.results14, go_sem, *]) rfl ⟨a2, c2, rfl, (hk2.set8 (by omega) _ _ _ _ _ _ _ _).mono (by omega), below_set8 hb3 (Nat.le_refl _) _ _ _ _ _ _ _ _⟩
end Go.Proofs.YtkpfpegjapddfaaGreatDoor
