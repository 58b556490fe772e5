/- Contracts of regex: the traversal's counters. -/
import Derived.Test.YtnjcefjcpmjdiaaD7
import Derived.Test.YtnjcefjcpmjdiaaDA
import Derived.Deep.RegionWith
set_option maxRecDepth 20000
namespace Go.Proofs.Ytnjcefjcpmjdiaa
open Go.RowKit

/-- Block b holds a traversal: nodes, depth, bytes. -/
def Trav (w : World) (b : Nat) (n d : Int) (s : BitVec 256) : Prop := w.heap[b]? = some (.cells #[.int .i64 n, .int .i64 d, .int .u64 (wd s 0), .int .u64 (wd s 1), .int .u64 (wd s 2), .int .u64 (wd s 3)] 58 (0, 0))
theorem Trav.lt {w : World} {b : Nat} {n d : Int} {s : BitVec 256} (h : Trav w b n d s) : b < w.heap.size := lt_of_block h
theorem Trav.cells {w : World} {b : Nat} {n d : Int} {s : BitVec 256} (h : Trav w b n d s) : w.cell? ⟨b, 0, none⟩ = some (.int .i64 n) ∧ w.cell? ⟨b, 1, none⟩ = some (.int .i64 d) ∧ w.cell? ⟨b, 2, none⟩ = some (.int .u64 (wd s 0)) ∧ w.cell? ⟨b, 3, none⟩ = some (.int .u64 (wd s 1)) ∧ w.cell? ⟨b, 4, none⟩ = some (.int .u64 (wd s 2)) ∧ w.cell? ⟨b, 5, none⟩ = some (.int .u64 (wd s 3)) := by
  unfold Trav at h; simp [World.cell?, h]
theorem Trav.free {w : World} {b : Nat} {n d : Int} {s : BitVec 256} (h : Trav w b n d s) (i : Nat) : w.frozen? ⟨b, i, none⟩ = false := by
  unfold Trav at h; simp [World.frozen?, h]
theorem Trav.below {w w' : World} {b : Nat} {n d : Int} {s : BitVec 256} (h : Trav w b n d s) (hb : Below w.heap.size w w') : Trav w' b n d s := (hb.block b h.lt).trans h
theorem Trav.alloc {w : World} {b : Nat} {n d : Int} {s : BitVec 256} (h : Trav w b n d s) (o : Obj) : Trav (w.alloc o) b n d s := h.below ((Below.refl _ _).alloc (Nat.le_refl _) _)
theorem Trav.nodes {w : World} {b : Nat} {n d : Int} {s : BitVec 256} (h : Trav w b n d s) (m : Int) : Trav (w.setCell ⟨b, 0, none⟩ (.int .i64 m)) b m d s := by
  have := setCell_block (i := 0) h (.int .i64 m); simpa [Trav] using this
theorem Trav.depth {w : World} {b : Nat} {n d : Int} {s : BitVec 256} (h : Trav w b n d s) (m : Int) : Trav (w.setCell ⟨b, 1, none⟩ (.int .i64 m)) b n m s := by
  have := setCell_block (i := 1) h (.int .i64 m); simpa [Trav] using this
theorem Trav.bytes {w : World} {b : Nat} {n d : Int} {s : BitVec 256} (h : Trav w b n d s) (t : BitVec 256) : Trav ((((w.setCell ⟨b, 2, none⟩ (.int .u64 (wd t 0))).setCell ⟨b, 3, none⟩ (.int .u64 (wd t 1))).setCell ⟨b, 4, none⟩ (.int .u64 (wd t 2))).setCell ⟨b, 5, none⟩ (.int .u64 (wd t 3))) b n d t := by
  have h1 := setCell_block (i := 2) h (.int .u64 (wd t 0))
  have h2 := setCell_block (i := 3) h1 (.int .u64 (wd t 1))
  have h3 := setCell_block (i := 4) h2 (.int .u64 (wd t 2))
  have h4 := setCell_block (i := 5) h3 (.int .u64 (wd t 3))
  simpa [Trav] using h4
/-- Nothing has turned but block b and what is new. -/
def Off (b : Nat) (w w' : World) : Prop := Below b w w' ∧ ∀ c, b < c → c < w.heap.size → w'.heap[c]? = w.heap[c]?
theorem Off.refl (b : Nat) (w : World) : Off b w w := ⟨Below.refl _ _, fun _ _ _ => rfl⟩
theorem Off.trans {b : Nat} {x y z : World} (h : Off b x y) (k : Off b y z) : Off b x z :=
  ⟨h.1.trans k.1, fun c h1 h2 => (k.2 c h1 (Nat.lt_of_lt_of_le h2 h.1.size)).trans (h.2 c h1 h2)⟩
theorem Off.below {b : Nat} {w w' : World} (hb : b ≤ w.heap.size) (h : Below w.heap.size w w') : Off b w w' := ⟨h.mono hb, fun c _ h2 => h.block c h2⟩
theorem Off.alloc {b : Nat} {w : World} (hb : b ≤ w.heap.size) (o : Obj) : Off b w (w.alloc o) := .below hb ((Below.refl _ _).alloc (Nat.le_refl _) _)
theorem Off.set {b : Nat} {w : World} (i : Nat) (u : Value) : Off b w (w.setCell ⟨b, i, none⟩ u) :=
  ⟨(Below.refl _ _).setCell (p := ⟨b, i, none⟩) (Nat.le_refl _) _, fun c h1 _ => Below.heap_setCell _ _ _ _ (by show c ≠ b; omega)⟩
theorem Off.cell {b : Nat} {w w' : World} (h : Off b w w') {a : Addr} {v : Value} (hc : w.cell? a = some v) (ha : a.block ≠ b) : w'.cell? a = some v := by
  have hl := cell_lt hc
  refine (World.cell?_of_block ?_).trans hc
  rcases Nat.lt_or_gt_of_ne ha with h1 | h1
  · exact h.1.block _ h1
  · exact h.2 _ h1 hl
theorem Off.box {b c : Nat} {w w' : World} {cs : Array Value} (h : Off b w w') (hc : Box w c cs) (ha : b < c) : Box w' c cs := (h.2 c ha hc.lt).trans hc
theorem union_pairD (x y : BitVec 256) (w : World) :
    Calls Try.prog 56 #[.slice (some ⟨w.heap.size, 0, none⟩) 2 2] (w.alloc (.cells #[.int .u64 (wd x 0), .int .u64 (wd x 1), .int .u64 (wd x 2), .int .u64 (wd x 3), .int .u64 (wd y 0), .int .u64 (wd y 1), .int .u64 (wd y 2), .int .u64 (wd y 3)] 24)).drew fun e w' => e = .returned (.agg #[.int .u64 (wd (x ||| y) 0), .int .u64 (wd (x ||| y) 1), .int .u64 (wd (x ||| y) 2), .int .u64 (wd (x ||| y) 3)]) ∧ Below w.heap.size w w' := by
  refine (union_pair x y w.drew w.heap.size rfl).mono ?_
  rintro e w' ⟨rfl, hb⟩
  exact ⟨rfl, (Below.refl w.heap.size w).drew.trans hb⟩
set_option maxHeartbeats 4000000 in
theorem enter_any (p : Pat) (ks : Value) (b : Nat) (n d : Nat) (s : BitVec 256) (w : World) (ht : Trav w b n d s) (hk : ∃ a l c, ks = .slice a l c) (hn : n < 1000000) (hd : d < 1000000) :
    Calls Try.prog 54 #[.pointer (some ⟨b, 0, none⟩), (.agg #[.int .i64 p.op, .int .u64 (wd p.set 0), .int .u64 (wd p.set 1), .int .u64 (wd p.set 2), .int .u64 (wd p.set 3), .int .i64 p.lo, .int .i64 p.hi, ks])] w fun e w' => e = .returned (.tuple #[]) ∧ Trav w' b (n + 1 : Nat) (d + 1 : Nat) (s ||| own0 p) ∧ Off b w w' := by
  obtain ⟨a, l, cap, rfl⟩ := hk
  have hlt := ht.lt
  obtain ⟨c0, c1, c2, c3, c4, c5⟩ := ht.cells
  have f := ht.free
  have f0 := f 0
  have f1 := f 1
  by_cases h0 : p.op = 0
  · have HO : Hid (own0 p = p.set) := by unfold own0; rw [Hid, h0]; rfl
    go_enter Try.func54, Try.ntmps54
    rw [h0]
    go_wp2_with fail
    obtain ⟨w3, hw3⟩ : ∃ w3, w3 = (((w.setCell ⟨b, 0, none⟩ (.int .i64 ((n : Int) + 1))).setCell ⟨b, 1, none⟩ (.int .i64 ((d : Int) + 1))).alloc (.cells #[.int .i64 0, .int .u64 (wd p.set 0), .int .u64 (wd p.set 1), .int .u64 (wd p.set 2), .int .u64 (wd p.set 3), .int .i64 p.lo, .int .i64 p.hi, .slice a l cap] 28)) := ⟨_, rfl⟩
    have ht3 : Trav w3 b (n + 1 : Nat) (d + 1 : Nat) s := by rw [hw3]; exact ((ht.nodes _).depth _).alloc _
    have hbx3 : Box w3 w.heap.size #[.int .i64 0, .int .u64 (wd p.set 0), .int .u64 (wd p.set 1), .int .u64 (wd p.set 2), .int .u64 (wd p.set 3), .int .i64 p.lo, .int .i64 p.hi, .slice a l cap] := by rw [hw3]; exact Box.new _ _ (by simp)
    have ho3 : Off b w w3 := by rw [hw3]; exact ((Off.set 0 _).trans (Off.set 1 _)).trans (Off.alloc (by simp; omega) _)
    rw [← hw3]
    clear hw3 c0 c1 c2 c3 c4 c5 f f0 f1 ht
    have hl3 := ht3.lt
    obtain ⟨c0, c1, c2, c3, c4, c5⟩ := ht3.cells
    obtain ⟨z0, z1, z2, z3, z4, z5, z6, z7⟩ := hbx3.cells
    go_region_with (first
      | (go_at_call 56; refine (union_pairD s p.set w3).mono ?_; rintro e w5 ⟨rfl, hb5⟩; have ht5 := ht3.below hb5; obtain ⟨d0, d1, d2, d3, d4, d5⟩ := ht5.cells; have f2 := ht5.free 2; have f3 := ht5.free 3; have f4 := ht5.free 4; have f5 := ht5.free 5))
    all_goals
      have ho5 : Off b w w5 := ho3.trans (Off.below (by omega) hb5)
      go_wp2_with fail
      go_end0
      exact ⟨rfl, by rw [HO.out]; exact ht5.bytes _, ho5.trans ((((Off.set 2 _).trans (Off.set 3 _)).trans (Off.set 4 _)).trans (Off.set 5 _))⟩
  · have HO : Hid (s ||| own0 p = s) := by unfold own0; rw [Hid, show (p.op == 0) = false by simpa using h0]; simp
    have hb0 : (p.op == 0) = false := by simpa using h0
    go_enter Try.func54, Try.ntmps54
    go_wp2_with fail
    go_end0
    exact ⟨rfl, by rw [HO.out]; exact ((ht.nodes _).depth _).alloc _, ((Off.set 0 _).trans (Off.set 1 _)).trans (Off.alloc (by simp; omega) _)⟩
set_option maxHeartbeats 1000000 in
theorem leave_any (b : Nat) (n d : Nat) (s : BitVec 256) (w : World) (ht : Trav w b n (d + 1 : Nat) s) (hd : d < 1000000) :
    Calls Try.prog 55 #[.pointer (some ⟨b, 0, none⟩)] w fun e w' => e = .returned (.tuple #[]) ∧ Trav w' b n d s ∧ Off b w w' := by
  have hlt := ht.lt
  obtain ⟨c0, c1, c2, c3, c4, c5⟩ := ht.cells
  have f1 := ht.free 1
  have hsub : (((d + 1 : Nat) : Int)) - 1 = (d : Int) := by omega
  go_enter Try.func55, Try.ntmps55
  go_wp2_with fail
  go_end0
  refine ⟨rfl, ?_, Off.set 1 _⟩
  have := ht.depth d
  simpa using this
set_option maxHeartbeats 1000000 in
theorem always_any (p : Pat) (ks : Value) (w : World) (hk : ∃ a l c, ks = .slice a l c) :
    Calls Try.prog 43 #[(.agg #[.int .i64 p.op, .int .u64 (wd p.set 0), .int .u64 (wd p.set 1), .int .u64 (wd p.set 2), .int .u64 (wd p.set 3), .int .i64 p.lo, .int .i64 p.hi, ks])] w fun e w' => e = .returned (.bool true) ∧ Below w.heap.size w w' := by
  obtain ⟨a, l, cap, rfl⟩ := hk
  go_enter Try.func43, Try.ntmps43
  go_wp2_with fail
  go_ret
  exact ⟨rfl, (Below.refl _ _).alloc (Nat.le_refl _) _⟩
end Go.Proofs.Ytnjcefjcpmjdiaa
