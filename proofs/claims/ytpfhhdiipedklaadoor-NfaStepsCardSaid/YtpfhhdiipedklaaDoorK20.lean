/- Texts that a proof rests on: Contract of homographref02.Bytes. | Contracts of regex: the traversal's counters. | Contracts of regex: the walk of a traversal that goes on always; Size, Bytes. | Contracts of regex: Check, and the walk under it. -/
import Derived.Test.YtpfhhdiipedklaaDoorK09
import Derived.Deep.RegionWith
import Derived.Deep.RegionHeld3
import Derived.Test.YtpfhhdiipedklaaDoorK15
set_option maxRecDepth 20000
namespace Go.Proofs.YtpfhhdiipedklaaDoor
open Go.RowKit

theorem bytesL_take (l : List Pat) (k : Nat) (h : k < l.length) : bytesL (l.take (k + 1)) = bytesL (l.take k) ||| l[k].bytes := by
  rw [List.take_succ_eq_append_getElem h, bytesL_append]; simp [bytesL]
/-- What a node names by itself. -/
def own0 (p : Pat) : BitVec 256 := bif p.op == 0 then p.set else 0
theorem cell_other4 {w : World} {a : Addr} {v : Value} {b : Nat} (h : w.cell? a = some v) (hb : a.block ≠ b) (v0 v1 v2 v3 : Value) :
    ((((w.setCell ⟨b, 0, none⟩ v0).setCell ⟨b, 1, none⟩ v1).setCell ⟨b, 2, none⟩ v2).setCell ⟨b, 3, none⟩ v3).cell? a = some v := by
  rw [World.cell?_of_block (w := w)]
  · exact h
  · rw [Below.heap_setCell _ _ _ _ (by simpa using hb), Below.heap_setCell _ _ _ _ (by simpa using hb), Below.heap_setCell _ _ _ _ (by simpa using hb), Below.heap_setCell _ _ _ _ (by simpa using hb)]
theorem SetAt.zero2 (w : World) (o : Obj) : SetAt ((w.alloc o).alloc (.cells #[.int .u64 0, .int .u64 0, .int .u64 0, .int .u64 0] 33)) (w.heap.size + 1) 0 := by
  have := SetAt.zero (w.alloc o); simpa using this
theorem SetAt.zero3 (w : World) (o o2 : Obj) : SetAt (((w.alloc o).alloc o2).alloc (.cells #[.int .u64 0, .int .u64 0, .int .u64 0, .int .u64 0] 33)) (w.heap.size + 1 + 1) 0 := by
  have := SetAt.zero ((w.alloc o).alloc o2); simpa using this
theorem SetAt.new3 (w : World) (o o2 : Obj) (s : BitVec 256) : SetAt (((w.alloc o).alloc o2).alloc (.cells #[.int .u64 (wd s 0), .int .u64 (wd s 1), .int .u64 (wd s 2), .int .u64 (wd s 3)] 33)) (w.heap.size + 1 + 1) s := by
  have := SetAt.new ((w.alloc o).alloc o2) s; simpa using this
theorem cell_first3 (w : World) (c : Array Value) (t : TypeId) (o2 o3 : Obj) (i : Nat) (v : Value) (h : c[i]? = some v) : (((w.alloc (.cells c t)).alloc o2).alloc o3).cell? ⟨w.heap.size, i, none⟩ = some v := by
  refine cell_below ((Below.refl _ _).alloc (Nat.le_refl _) _) (cell_below ((Below.refl _ _).alloc (Nat.le_refl _) _) ?_)
  simpa using h
end Go.Proofs.YtpfhhdiipedklaaDoor
set_option maxRecDepth 20000
namespace Go.Proofs.YtpfhhdiipedklaaDoor
open Go.RowKit

/-- Block b holds a traversal: nodes, depth, bytes. -/
def Trav (w : World) (b : Nat) (n d : Int) (s : BitVec 256) : Prop := w.heap[b]? = some (.cells #[.int .i64 n, .int .i64 d, .int .u64 (wd s 0), .int .u64 (wd s 1), .int .u64 (wd s 2), .int .u64 (wd s 3)] 93 (0, 0))
theorem Trav.lt {w : World} {b : Nat} {n d : Int} {s : BitVec 256} (h : Trav w b n d s) : b < w.heap.size := lt_of_block h
theorem Trav.cells {w : World} {b : Nat} {n d : Int} {s : BitVec 256} (h : Trav w b n d s) : w.cell? ⟨b, 0, none⟩ = some (.int .i64 n) ∧ w.cell? ⟨b, 1, none⟩ = some (.int .i64 d) ∧ w.cell? ⟨b, 2, none⟩ = some (.int .u64 (wd s 0)) ∧ w.cell? ⟨b, 3, none⟩ = some (.int .u64 (wd s 1)) ∧ w.cell? ⟨b, 4, none⟩ = some (.int .u64 (wd s 2)) ∧ w.cell? ⟨b, 5, none⟩ = some (.int .u64 (wd s 3)) := by
  unfold Trav at h; simp [World.cell?, h]
theorem Trav.free {w : World} {b : Nat} {n d : Int} {s : BitVec 256} (h : Trav w b n d s) (i : Nat) : w.frozen? ⟨b, i, none⟩ = false := by
  unfold Trav at h; simp [World.frozen?, h]
theorem Trav.below {w w' : World} {b : Nat} {n d : Int} {s : BitVec 256} (h : Trav w b n d s) (hb : Below w.heap.size w w') : Trav w' b n d s := (hb.block b h.lt).trans h
theorem Trav.alloc {w : World} {b : Nat} {n d : Int} {s : BitVec 256} (h : Trav w b n d s) (o : Obj) : Trav (w.alloc o) b n d s := h.below ((Below.refl _ _).alloc (Nat.le_refl _) _)
theorem Trav.nodes {w : World} {b : Nat} {n d : Int} {s : BitVec 256} (h : Trav w b n d s) (m : Int) : Trav (w.setCell ⟨b, 0, none⟩ (.int .i64 m)) b m d s := by
  have := setCell_block (i := 0) h (.int .i64 m); simpa [Trav] using this
theorem Trav.depth {w : World} {b : Nat} {n d : Int} {s : BitVec 256} (h : Trav w b n d s) (m : Int) : Trav (w.setCell ⟨b, 1, none⟩ (.int .i64 m)) b n m s := by
  have := setCell_block (i := 1) h (.int .i64 m); simpa [Trav] using this
theorem Trav.bytes {w : World} {b : Nat} {n d : Int} {s : BitVec 256} (h : Trav w b n d s) (t : BitVec 256) : Trav ((((w.setCell ⟨b, 2, none⟩ (.int .u64 (wd t 0))).setCell ⟨b, 3, none⟩ (.int .u64 (wd t 1))).setCell ⟨b, 4, none⟩ (.int .u64 (wd t 2))).setCell ⟨b, 5, none⟩ (.int .u64 (wd t 3))) b n d t := by
  have h1 := setCell_block (i := 2) h (.int .u64 (wd t 0))
  have h2 := setCell_block (i := 3) h1 (.int .u64 (wd t 1))
  have h3 := setCell_block (i := 4) h2 (.int .u64 (wd t 2))
  have h4 := setCell_block (i := 5) h3 (.int .u64 (wd t 3))
  simpa [Trav] using h4
/-- Nothing has turned but block b and what is new. -/
def Off (b : Nat) (w w' : World) : Prop := Below b w w' ∧ ∀ c, b < c → c < w.heap.size → w'.heap[c]? = w.heap[c]?
theorem Off.refl (b : Nat) (w : World) : Off b w w := ⟨Below.refl _ _, fun _ _ _ => rfl⟩
theorem Off.trans {b : Nat} {x y z : World} (h : Off b x y) (k : Off b y z) : Off b x z :=
  ⟨h.1.trans k.1, fun c h1 h2 => (k.2 c h1 (Nat.lt_of_lt_of_le h2 h.1.size)).trans (h.2 c h1 h2)⟩
theorem Off.below {b : Nat} {w w' : World} (hb : b ≤ w.heap.size) (h : Below w.heap.size w w') : Off b w w' := ⟨h.mono hb, fun c _ h2 => h.block c h2⟩
theorem Off.alloc {b : Nat} {w : World} (hb : b ≤ w.heap.size) (o : Obj) : Off b w (w.alloc o) := .below hb ((Below.refl _ _).alloc (Nat.le_refl _) _)
theorem Off.set {b : Nat} {w : World} (i : Nat) (u : Value) : Off b w (w.setCell ⟨b, i, none⟩ u) :=
  ⟨(Below.refl _ _).setCell (p := ⟨b, i, none⟩) (Nat.le_refl _) _, fun c h1 _ => Below.heap_setCell _ _ _ _ (by show c ≠ b; omega)⟩
theorem Off.cell {b : Nat} {w w' : World} (h : Off b w w') {a : Addr} {v : Value} (hc : w.cell? a = some v) (ha : a.block ≠ b) : w'.cell? a = some v := by
  have hl := cell_lt hc
  refine (World.cell?_of_block ?_).trans hc
  rcases Nat.lt_or_gt_of_ne ha with h1 | h1
  · exact h.1.block _ h1
  · exact h.2 _ h1 hl
theorem Off.box {b c : Nat} {w w' : World} {cs : Array Value} (h : Off b w w') (hc : Box w c cs) (ha : b < c) : Box w' c cs := (h.2 c ha hc.lt).trans hc
theorem union_pairD (x y : BitVec 256) (w : World) :
    Calls Tryd.prog 72 #[.slice (some ⟨w.heap.size, 0, none⟩) 2 2] (w.alloc (.cells #[.int .u64 (wd x 0), .int .u64 (wd x 1), .int .u64 (wd x 2), .int .u64 (wd x 3), .int .u64 (wd y 0), .int .u64 (wd y 1), .int .u64 (wd y 2), .int .u64 (wd y 3)] 33)).drew fun e w' => e = .returned (.agg #[.int .u64 (wd (x ||| y) 0), .int .u64 (wd (x ||| y) 1), .int .u64 (wd (x ||| y) 2), .int .u64 (wd (x ||| y) 3)]) ∧ Below w.heap.size w w' := by
  refine (union_pair x y w.drew w.heap.size rfl).mono ?_
  rintro e w' ⟨rfl, hb⟩
  exact ⟨rfl, (Below.refl w.heap.size w).drew.trans hb⟩
set_option maxHeartbeats 4000000 in
theorem enter_any (p : Pat) (ks : Value) (b : Nat) (n d : Nat) (s : BitVec 256) (w : World) (ht : Trav w b n d s) (hk : ∃ a l c, ks = .slice a l c) (hn : n < 1000000) (hd : d < 1000000) :
    Calls Tryd.prog 63 #[.pointer (some ⟨b, 0, none⟩), (.agg #[.int .i64 p.op, .int .u64 (wd p.set 0), .int .u64 (wd p.set 1), .int .u64 (wd p.set 2), .int .u64 (wd p.set 3), .int .i64 p.lo, .int .i64 p.hi, ks])] w fun e w' => e = .returned (.tuple #[]) ∧ Trav w' b (n + 1 : Nat) (d + 1 : Nat) (s ||| own0 p) ∧ Off b w w' := by
  obtain ⟨a, l, cap, rfl⟩ := hk
  have hlt := ht.lt
  obtain ⟨c0, c1, c2, c3, c4, c5⟩ := ht.cells
  have f := ht.free
  have f0 := f 0
  have f1 := f 1
  by_cases h0 : p.op = 0
  · have HO : Hid (own0 p = p.set) := by unfold own0; rw [Hid, h0]; rfl
    go_enter Tryd.func63, Tryd.ntmps63
    rw [h0]
    go_wp2_with fail
    obtain ⟨w3, hw3⟩ : ∃ w3, w3 = (((w.setCell ⟨b, 0, none⟩ (.int .i64 ((n : Int) + 1))).setCell ⟨b, 1, none⟩ (.int .i64 ((d : Int) + 1))).alloc (.cells #[.int .i64 0, .int .u64 (wd p.set 0), .int .u64 (wd p.set 1), .int .u64 (wd p.set 2), .int .u64 (wd p.set 3), .int .i64 p.lo, .int .i64 p.hi, .slice a l cap] 36)) := ⟨_, rfl⟩
    have ht3 : Trav w3 b (n + 1 : Nat) (d + 1 : Nat) s := by rw [hw3]; exact ((ht.nodes _).depth _).alloc _
    have hbx3 : Box w3 w.heap.size #[.int .i64 0, .int .u64 (wd p.set 0), .int .u64 (wd p.set 1), .int .u64 (wd p.set 2), .int .u64 (wd p.set 3), .int .i64 p.lo, .int .i64 p.hi, .slice a l cap] := by rw [hw3]; exact Box.new _ _ (by simp)
    have ho3 : Off b w w3 := by rw [hw3]; exact ((Off.set 0 _).trans (Off.set 1 _)).trans (Off.alloc (by simp; omega) _)
    rw [← hw3]
    clear hw3 c0 c1 c2 c3 c4 c5 f f0 f1 ht
    have hl3 := ht3.lt
    obtain ⟨c0, c1, c2, c3, c4, c5⟩ := ht3.cells
    obtain ⟨z0, z1, z2, z3, z4, z5, z6, z7⟩ := hbx3.cells
    go_region_with (first
      | (go_at_call 72; refine (union_pairD s p.set w3).mono ?_; rintro e w5 ⟨rfl, hb5⟩; have ht5 := ht3.below hb5; obtain ⟨d0, d1, d2, d3, d4, d5⟩ := ht5.cells; have f2 := ht5.free 2; have f3 := ht5.free 3; have f4 := ht5.free 4; have f5 := ht5.free 5))
    all_goals
      have ho5 : Off b w w5 := ho3.trans (Off.below (by omega) hb5)
      go_wp2_with fail
      go_end0
      exact ⟨rfl, by rw [HO.out]; exact ht5.bytes _, ho5.trans ((((Off.set 2 _).trans (Off.set 3 _)).trans (Off.set 4 _)).trans (Off.set 5 _))⟩
  · have HO : Hid (s ||| own0 p = s) := by unfold own0; rw [Hid, show (p.op == 0) = false by simpa using h0]; simp
    have hb0 : (p.op == 0) = false := by simpa using h0
    go_enter Tryd.func63, Tryd.ntmps63
    go_wp2_with fail
    go_end0
    exact ⟨rfl, by rw [HO.out]; exact ((ht.nodes _).depth _).alloc _, ((Off.set 0 _).trans (Off.set 1 _)).trans (Off.alloc (by simp; omega) _)⟩
set_option maxHeartbeats 1000000 in
theorem leave_any (b : Nat) (n d : Nat) (s : BitVec 256) (w : World) (ht : Trav w b n (d + 1 : Nat) s) (hd : d < 1000000) :
    Calls Tryd.prog 64 #[.pointer (some ⟨b, 0, none⟩)] w fun e w' => e = .returned (.tuple #[]) ∧ Trav w' b n d s ∧ Off b w w' := by
  have hlt := ht.lt
  obtain ⟨c0, c1, c2, c3, c4, c5⟩ := ht.cells
  have f1 := ht.free 1
  have hsub : (((d + 1 : Nat) : Int)) - 1 = (d : Int) := by omega
  go_enter Tryd.func64, Tryd.ntmps64
  go_wp2_with fail
  go_end0
  refine ⟨rfl, ?_, Off.set 1 _⟩
  have := ht.depth d
  simpa using this
end Go.Proofs.YtpfhhdiipedklaaDoor
set_option maxRecDepth 20000
namespace Go.Proofs.YtpfhhdiipedklaaDoor
open Go.RowKit

theorem Trav.new (w : World) {n : Nat} (hn : w.heap.size = n) : Trav (w.alloc (.cells #[.int .i64 0, .int .i64 0, .int .u64 0, .int .u64 0, .int .u64 0, .int .u64 0] 93)) n (0 : Nat) (0 : Nat) 0 := by
  subst hn
  unfold Trav
  rw [wd_zero, wd_zero, wd_zero, wd_zero]
  exact heap_alloc_new w _
end Go.Proofs.YtpfhhdiipedklaaDoor
set_option maxRecDepth 20000
namespace Go.Proofs.YtpfhhdiipedklaaDoor
open Go.RowKit

/-- Is there such a kind, and may it have so many kids? -/
def kf (op : Int) (n : Nat) : Bool := decide ((op = 0 ∧ n = 0) ∨ ((op = 3 ∨ op = 5) ∧ n = 1) ∨ op = 1 ∨ op = 2 ∨ op = 4)
def tf (lo hi : Int) : Bool := decide (0 ≤ lo ∧ lo ≤ 32 ∧ hi ≤ 32 ∧ (hi < 0 ∨ lo ≤ hi))
theorem okN_parts (op lo hi : Int) (n : Nat) : okN op lo hi n = (kf op n && tf lo hi) := by
  rw [Bool.eq_iff_iff, okN_iff, Bool.and_eq_true]
  unfold kf tf
  rw [decide_eq_true_iff, decide_eq_true_iff]
  omega
set_option maxHeartbeats 2000000 in
theorem kidsfit_any (p : Pat) (l : Nat) (a : Option Addr) (cap : Nat) (w : World) :
    Calls Tryd.prog 40 #[(.agg #[.int .i64 p.op, .int .u64 (wd p.set 0), .int .u64 (wd p.set 1), .int .u64 (wd p.set 2), .int .u64 (wd p.set 3), .int .i64 p.lo, .int .i64 p.hi, .slice a l cap])] w fun e w' => e = .returned (.bool (kf p.op l)) ∧ Below w.heap.size w w' := by
  have hcase : (p.op = 0 ∧ l = 0) ∨ (p.op = 0 ∧ ¬ l = 0) ∨ (p.op = 3 ∧ l = 1) ∨ (p.op = 3 ∧ ¬ l = 1) ∨ (p.op = 5 ∧ l = 1) ∨ (p.op = 5 ∧ ¬ l = 1) ∨ p.op = 1 ∨ p.op = 2 ∨ p.op = 4 ∨ (¬ p.op = 0 ∧ ¬ p.op = 1 ∧ ¬ p.op = 2 ∧ ¬ p.op = 3 ∧ ¬ p.op = 4 ∧ ¬ p.op = 5) := by omega
  have HK : Hid (∀ v : Bool, (v = true ↔ ((p.op = 0 ∧ l = 0) ∨ ((p.op = 3 ∨ p.op = 5) ∧ l = 1) ∨ p.op = 1 ∨ p.op = 2 ∨ p.op = 4)) → kf p.op l = v) := fun v h => by
    rw [Bool.eq_iff_iff]; unfold kf; rw [decide_eq_true_iff]; exact h.symm
  rcases hcase with ⟨g1, g2⟩ | ⟨g1, g2⟩ | ⟨g1, g2⟩ | ⟨g1, g2⟩ | ⟨g1, g2⟩ | ⟨g1, g2⟩ | g1 | g1 | g1 | ⟨g0, g1, g2, g3, g4, g5⟩
  all_goals
    first
      | have HR : Hid (kf p.op l = true) := HK.out true (by simp only [true_iff]; omega)
      | have HR : Hid (kf p.op l = false) := HK.out false (by simp only [Bool.false_eq_true, false_iff]; omega)
    clear HK
    go_enter Tryd.func40, Tryd.ntmps40
    go_wp2_with fail
    go_ret
    refine ⟨?_, (Below.refl _ _).alloc (Nat.le_refl _) _⟩
    rw [HR.out]
    first | rfl | (congr 2; simp [*]; done) | (congr 2; simp [*]; omega)
set_option maxHeartbeats 2000000 in
theorem timesfit_any (p : Pat) (l : Nat) (a : Option Addr) (cap : Nat) (w : World) :
    Calls Tryd.prog 41 #[(.agg #[.int .i64 p.op, .int .u64 (wd p.set 0), .int .u64 (wd p.set 1), .int .u64 (wd p.set 2), .int .u64 (wd p.set 3), .int .i64 p.lo, .int .i64 p.hi, .slice a l cap])] w fun e w' => e = .returned (.bool (tf p.lo p.hi)) ∧ Below w.heap.size w w' := by
  have hcase : (¬ 0 ≤ p.lo) ∨ (0 ≤ p.lo ∧ ¬ p.lo ≤ 32) ∨ (0 ≤ p.lo ∧ p.lo ≤ 32 ∧ ¬ p.hi ≤ 32) ∨ (0 ≤ p.lo ∧ p.lo ≤ 32 ∧ p.hi ≤ 32 ∧ p.hi < 0) ∨ (0 ≤ p.lo ∧ p.lo ≤ 32 ∧ p.hi ≤ 32 ∧ ¬ p.hi < 0 ∧ p.lo ≤ p.hi) ∨ (0 ≤ p.lo ∧ p.lo ≤ 32 ∧ p.hi ≤ 32 ∧ ¬ p.hi < 0 ∧ ¬ p.lo ≤ p.hi) := by omega
  have HK : Hid (∀ v : Bool, (v = true ↔ (0 ≤ p.lo ∧ p.lo ≤ 32 ∧ p.hi ≤ 32 ∧ (p.hi < 0 ∨ p.lo ≤ p.hi))) → tf p.lo p.hi = v) := fun v h => by
    rw [Bool.eq_iff_iff]; unfold tf; rw [decide_eq_true_iff]; exact h.symm
  rcases hcase with g1 | ⟨g1, g2⟩ | ⟨g1, g2, g3⟩ | ⟨g1, g2, g3, g4⟩ | ⟨g1, g2, g3, g4, g5⟩ | ⟨g1, g2, g3, g4, g5⟩
  all_goals
    first
      | have HR : Hid (tf p.lo p.hi = true) := HK.out true (by simp only [true_iff]; omega)
      | have HR : Hid (tf p.lo p.hi = false) := HK.out false (by simp only [Bool.false_eq_true, false_iff]; omega)
    clear HK
    go_enter Tryd.func41, Tryd.ntmps41
    go_wp2_with fail
    go_ret
    refine ⟨?_, (Below.refl _ _).alloc (Nat.le_refl _) _⟩
    rw [HR.out]
    first | rfl | (congr 2; simp [*]; done) | (congr 2; simp [*]; omega)
set_option maxHeartbeats 2000000 in
theorem fits_any (p : Pat) (l : Nat) (a : Option Addr) (cap : Nat) (b N d : Nat) (s : BitVec 256) (w : World) (ht : Trav w b N d s) :
    Calls Tryd.prog 39 #[(.agg #[.int .i64 p.op, .int .u64 (wd p.set 0), .int .u64 (wd p.set 1), .int .u64 (wd p.set 2), .int .u64 (wd p.set 3), .int .i64 p.lo, .int .i64 p.hi, .slice a l cap]), .pointer (some ⟨b, 0, none⟩)] w fun e w' => e = .returned (.bool (decide (d ≤ 64) && okN p.op p.lo p.hi l)) ∧ Below w.heap.size w w' := by
  have HO := Lib.hid (okN_parts p.op p.lo p.hi l)
  have hlt := ht.lt
  have hal := (Below.refl w.heap.size w).alloc (Nat.le_refl _) (.cells #[.int .i64 p.op, .int .u64 (wd p.set 0), .int .u64 (wd p.set 1), .int .u64 (wd p.set 2), .int .u64 (wd p.set 3), .int .i64 p.lo, .int .i64 p.hi, .slice a l cap] 36)
  have hbx := Box.new w #[.int .i64 p.op, .int .u64 (wd p.set 0), .int .u64 (wd p.set 1), .int .u64 (wd p.set 2), .int .u64 (wd p.set 3), .int .i64 p.lo, .int .i64 p.hi, .slice a l cap] rfl
  obtain ⟨c0, c1, c2, c3, c4, c5⟩ := ht.cells
  by_cases h1 : d ≤ 64
  · have h1' : (d : Int) ≤ 64 := by omega
    have HD : Hid (decide (d ≤ 64) = true) := decide_eq_true h1
    cases hk : kf p.op l
    · have HK := Lib.hid hk
      clear hk h1
      go_enter Tryd.func39, Tryd.ntmps39
      go_wp2_with (go_at_call 40; refine (kidsfit_any p l a cap _).mono ?_; rw [HK.out]; rintro e w2 ⟨rfl, hb2⟩)
      go_ret
      exact ⟨by rw [HD.out, HO.out, HK.out]; rfl, below_step hal hb2⟩
    · have HK := Lib.hid hk
      clear hk h1
      go_enter Tryd.func39, Tryd.ntmps39
      go_wp2_with (first | (go_at_call 40; refine (kidsfit_any p l a cap _).mono ?_; rw [HK.out]; rintro e w2 ⟨rfl, hb2⟩; obtain ⟨z0, z1, z2, z3, z4, z5, z6, z7⟩ := (hbx.below hb2).cells) | (go_at_call 41; refine (timesfit_any p l a cap _).mono ?_; rintro e w3 ⟨rfl, hb3⟩))
      go_ret
      exact ⟨by rw [HD.out, HO.out, HK.out]; rfl, below_step (below_step hal hb2) hb3⟩
  · have h1' : ¬ (d : Int) ≤ 64 := by omega
    have HD : Hid (decide (d ≤ 64) = false) := decide_eq_false h1
    clear h1
    go_enter Tryd.func39, Tryd.ntmps39
    go_wp2_with fail
    go_ret
    exact ⟨by rw [HD.out]; rfl, hal⟩
set_option maxHeartbeats 4000000 in
theorem walkc_any : ∀ (n : Nat) (p : Pat) (ks : Value) (b N d : Nat) (s : BitVec 256) (w0 w : World), p.size < n → n ≤ 100000 → N + p.size < 500000 → d + n < 500000 → Kids w0 p.kids ks → Below w0.heap.size w0 w → w0.heap.size ≤ b → Trav w b N d s →
    Calls Tryd.prog 42 #[.pointer (some ⟨b, 0, none⟩), (.agg #[.int .i64 p.op, .int .u64 (wd p.set 0), .int .u64 (wd p.set 1), .int .u64 (wd p.set 2), .int .u64 (wd p.set 3), .int .i64 p.lo, .int .i64 p.hi, ks]), .func (.func 39) #[] #[.pointer (some ⟨b, 0, none⟩)]] w fun e w' => e = .returned (.bool (p.fit (d + 1))) ∧ (p.fit (d + 1) = true → Trav w' b (N + p.size : Nat) d (s ||| p.bytes)) ∧ Off b w w' := by
  intro n
  induction n with
  | zero => intro p ks b N d s w0 w h; omega
  | succ n ih =>
    intro p ks b N d s w0 w hn hmax hN hd hk hb0 hbb ht
    have hse := size_eq p
    have hlen := length_sizes p.kids
    have IH := Lib.hid ih
    clear ih
    have hlt := ht.lt
    obtain ⟨a, cap, rfl⟩ := hk.len
    have HSZ : Hid (∀ k (h : k < p.kids.length), Pat.sizes (p.kids.take (k + 1)) = Pat.sizes (p.kids.take k) + p.kids[k].size ∧ p.kids[k].size < n ∧ N + 1 + (Pat.sizes (p.kids.take k) + p.kids[k].size) ≤ N + p.size) := fun k h => by
      have h1 := sizes_at p.kids k h
      have h2 := size_kid p.kids k h
      have h3 := sizes_take p.kids (k + 1)
      exact ⟨h1, by omega, by omega⟩
    have HBY : Hid (∀ k (h : k < p.kids.length), bytesL (p.kids.take (k + 1)) = bytesL (p.kids.take k) ||| p.kids[k].bytes) := fun k h => bytesL_take p.kids k h
    have HBF : Hid (p.bytes = own0 p ||| bytesL p.kids) := bytes_eq p
    have HSF : Hid (N + p.size = N + 1 + Pat.sizes p.kids) := by rw [Hid, hse]; omega
    have hsm : p.kids.length < 100000 := by omega
    have HFE := Lib.hid (fit_eq p (d + 1))
    have HTF : Hid (∀ k (h : k < p.kids.length), p.kids[k].fit (d + 1 + 1) = false → p.kids.all (fun q => q.fit (d + 1 + 1)) = false) := fun k h e => by
      rw [← Bool.not_eq_true, List.all_eq_true]; intro H; rw [H _ (List.getElem_mem h)] at e; cases e
    have HTA : Hid ((∀ k (h : k < p.kids.length), p.kids[k].fit (d + 1 + 1) = true) → p.kids.all (fun q => q.fit (d + 1 + 1)) = true) := fun H => by
      rw [List.all_eq_true]; intro q hq; obtain ⟨i, hi, rfl⟩ := List.getElem_of_mem hq; exact H i hi
    have HNB := Lib.hid hN
    have hN1 : N < 1000000 := by omega
    have hd1 : d + 1 < 1000000 := by omega
    clear hse hlen hN hn
    generalize hkk : p.kids = kids at *
    clear hkk
    go_enter Tryd.func42, Tryd.ntmps42
    go_wp2_with fail
    obtain ⟨w1, hw1⟩ : ∃ w1, w1 = (w.alloc (.cells #[.int .i64 p.op, .int .u64 (wd p.set 0), .int .u64 (wd p.set 1), .int .u64 (wd p.set 2), .int .u64 (wd p.set 3), .int .i64 p.lo, .int .i64 p.hi, .slice a kids.length cap] 36)) := ⟨_, rfl⟩
    have hbx1 : Box w1 w.heap.size #[.int .i64 p.op, .int .u64 (wd p.set 0), .int .u64 (wd p.set 1), .int .u64 (wd p.set 2), .int .u64 (wd p.set 3), .int .i64 p.lo, .int .i64 p.hi, .slice a kids.length cap] := by rw [hw1]; exact Box.new _ _ rfl
    have ht1 : Trav w1 b N d s := by rw [hw1]; exact ht.alloc _
    have ho1 : Off b w w1 := by rw [hw1]; exact Off.alloc (by omega) _
    rw [← hw1]
    clear hw1 ht
    obtain ⟨z0, z1, z2, z3, z4, z5, z6, z7⟩ := hbx1.cells
    go_still_tail 4, (by kernel_rfl)
    change wpList _ _ _ _ _ w1.drew
    obtain ⟨w2, hw2⟩ : ∃ w2, w2 = w1.drew := ⟨_, rfl⟩
    have ht2 : Trav w2 b N d s := by rw [hw2]; exact ht1
    have hbx2 : Box w2 w.heap.size #[.int .i64 p.op, .int .u64 (wd p.set 0), .int .u64 (wd p.set 1), .int .u64 (wd p.set 2), .int .u64 (wd p.set 3), .int .i64 p.lo, .int .i64 p.hi, .slice a kids.length cap] := by rw [hw2]; exact hbx1
    have ho2 : Off b w w2 := by rw [hw2]; exact ho1.trans (Off.below (by have := ht1.lt; omega) (Below.refl _ _).drew)
    rw [← hw2]
    clear hw2 z0 z1 z2 z3 z4 z5 z6 z7 ho1 ht1 hbx1 w1
    cases hg : (decide (d + 1 ≤ 64) && okN p.op p.lo p.hi kids.length)
    · have HG := Lib.hid hg
      have HR : Hid (p.fit (d + 1) = false) := by rw [Hid, HFE.out, ← Bool.and_assoc, hg]; rfl
      clear hg
      go_wp2_with (first
        | (go_at_call 63; refine (enter_any p _ b N d s _ ht2 ⟨_, _, _, rfl⟩ (by omega) (by omega)).mono ?_; rintro e w3 ⟨rfl, ht3, ho3⟩; have hbx3 := ho3.box hbx2 hlt; obtain ⟨z0, z1, z2, z3, z4, z5, z6, z7⟩ := hbx3.cells)
        | (go_at_call 39; refine (fits_any p kids.length _ _ b (N + 1) (d + 1) _ _ ht3).mono ?_; rw [HG.out]; rintro e w4 ⟨rfl, hb4⟩; have hbx4 := hbx3.below hb4; have ht4 := ht3.below hb4; have hl4 := ht4.lt; have c7 := hbx4.cell 7))
      go_ret
      exact ⟨by rw [HR.out]; rfl, (fun h => by rw [HR.out] at h; cases h), (ho2.trans ho3).trans (Off.below (by have := ht3.lt; omega) hb4)⟩
    have HG := Lib.hid hg
    have HR : Hid (p.fit (d + 1) = kids.all (fun q => q.fit (d + 1 + 1))) := by rw [Hid, HFE.out, ← Bool.and_assoc, hg]; rfl
    clear hg HFE
    go_wp2_with (first
      | (go_at_call 63; refine (enter_any p _ b N d s _ ht2 ⟨_, _, _, rfl⟩ (by omega) (by omega)).mono ?_; rintro e w3 ⟨rfl, ht3, ho3⟩; have hbx3 := ho3.box hbx2 hlt; obtain ⟨z0, z1, z2, z3, z4, z5, z6, z7⟩ := hbx3.cells)
      | (go_at_call 39; refine (fits_any p kids.length _ _ b (N + 1) (d + 1) _ _ ht3).mono ?_; rw [HG.out]; rintro e w4 ⟨rfl, hb4⟩; have hbx4 := hbx3.below hb4; have ht4 := ht3.below hb4; have hl4 := ht4.lt; have c7 := hbx4.cell 7))
    have ho4 : Off b w w4 := (ho2.trans ho3).trans (Off.below (by have := ht3.lt; omega) hb4)
    clear ho3 hb4 ht3 ho2 ht2 hbx2 hbx3
    go_loopw [21] (fun i wr => ∃ k : Nat, k ≤ kids.length ∧ i = .int .i64 k ∧ Trav wr b (N + 1 + Pat.sizes (kids.take k) : Nat) (d + 1 : Nat) (s ||| own0 p ||| bytesL (kids.take k)) ∧ Hid (∀ i (h : i < kids.length), i < k → kids[i].fit (d + 1 + 1) = true) ∧ Off b w wr) (fun i _ => kids.length - (intOf i).toNat)
    case atStart =>
      refine ⟨0, by omega, rfl, ?_, fun i _ h => by omega, ho4⟩
      rw [List.take_zero, bytesL, show ∀ x : BitVec 256, x ||| 0 = x from fun x => BitVec.or_zero]
      exact ht4
    case round =>
      obtain ⟨k, hkl, rfl, htr, HP, hor⟩ := hrel
      have hlr := htr.lt
      have hbw : Below w0.heap.size w0 wr := hb0.trans (hor.1.mono hbb)
      by_cases hlt2 : k < kids.length
      · obtain ⟨b1, o1, c1, e1, hr1⟩ := hk.row (by omega)
        cases e1
        obtain ⟨ks', hks, e0, e1, e2, e3, e4, e5, e6, e7⟩ := ((hr1.below hbw).at k hlt2).load
        obtain ⟨ks0, hks0, g0, g1, g2, g3, g4, g5, g6, g7⟩ := (hr1.at k hlt2).load
        obtain rfl : ks0 = ks' := by have h := (cell_below hbw g7).symm.trans e7; exact Option.some.inj h
        clear g0 g1 g2 g3 g4 g5 g6 g7
        have HS1 := Lib.hid (HSZ.out k hlt2)
        have HB1 := Lib.hid (HBY.out k hlt2)
        have HT1 := Lib.hid (HTF.out k hlt2)
        have HP2 : Hid (kids[k].fit (d + 1 + 1) = true → ∀ i (h : i < kids.length), i < k + 1 → kids[i].fit (d + 1 + 1) = true) := fun h i ha hi => by
          rcases Nat.lt_succ_iff_lt_or_eq.1 hi with h | rfl
          · exact HP.out i ha h
          · exact h
        clear HP
        generalize kids[k] = p' at *
        obtain ⟨ka, kc, rfl⟩ := hks.len
        have hbx5 := Box.new wr #[.int .i64 p'.op, .int .u64 (wd p'.set 0), .int .u64 (wd p'.set 1), .int .u64 (wd p'.set 2), .int .u64 (wd p'.set 3), .int .i64 p'.lo, .int .i64 p'.hi, .slice ka p'.kids.length kc] rfl
        have ht5 := htr.alloc (.cells #[.int .i64 p'.op, .int .u64 (wd p'.set 0), .int .u64 (wd p'.set 1), .int .u64 (wd p'.set 2), .int .u64 (wd p'.set 3), .int .i64 p'.lo, .int .i64 p'.hi, .slice ka p'.kids.length kc] 36)
        have ho5 := Off.alloc (b := b) (w := wr) (by omega) (.cells #[.int .i64 p'.op, .int .u64 (wd p'.set 0), .int .u64 (wd p'.set 1), .int .u64 (wd p'.set 2), .int .u64 (wd p'.set 3), .int .i64 p'.lo, .int .i64 p'.hi, .slice ka p'.kids.length kc] 36)
        cases hq : p'.fit (d + 1 + 1)
        · have HQ := Lib.hid hq
          clear hq
          go_wp2_with (go_at_call 42; refine (IH.out p' _ b (N + 1 + Pat.sizes (kids.take k)) (d + 1) _ w0 _ HS1.out.2.1 (by omega) (by have := HS1.out.2.2; have := HNB.out; omega) (by omega) hks0 (hbw.trans (ho5.1.mono hbb)) hbb ht5).mono ?_; rw [HQ.out]; rintro e w6 ⟨rfl, ht6, ho6⟩)
          go_ret
          have HRF : Hid (p.fit (d + 1) = false) := by rw [Hid, HR.out]; exact HT1.out HQ.out
          exact ⟨by rw [HRF.out]; rfl, (fun h => by rw [HRF.out] at h; cases h), (hor.trans ho5).trans ho6⟩
        · have HQ := Lib.hid hq
          clear hq
          go_wp2_with (go_at_call 42; refine (IH.out p' _ b (N + 1 + Pat.sizes (kids.take k)) (d + 1) _ w0 _ HS1.out.2.1 (by omega) (by have := HS1.out.2.2; have := HNB.out; omega) (by omega) hks0 (hbw.trans (ho5.1.mono hbb)) hbb ht5).mono ?_; rw [HQ.out]; rintro e w6 ⟨rfl, ht6, ho6⟩)
          go_roundw
          case rel =>
            refine ⟨k + 1, by omega, num_succ k, ?_, HP2.out HQ.out, (hor.trans ho5).trans ho6⟩
            rw [HB1.out, HS1.out.1, ← BitVec.or_assoc, ← Nat.add_assoc]
            exact ht6 (by simp)
          case measure => simp [intOf]; omega
      · obtain rfl : k = kids.length := by omega
        rw [List.take_length] at htr
        have HTR : Hid (Trav wr b (N + p.size : Nat) (d + 1 : Nat) (s ||| p.bytes)) := by rw [Hid, HSF.out, HBF.out, ← BitVec.or_assoc]; exact htr
        clear htr
        go_wp2_with (go_at_call 64; refine (leave_any b (N + p.size) d _ _ HTR.out (by omega)).mono ?_; rintro e w6 ⟨rfl, ht6, ho6⟩)
        go_ret
        have HRT : Hid (p.fit (d + 1) = true) := by rw [Hid, HR.out]; exact HTA.out fun i h => HP.out i h h
        exact ⟨by rw [HRT.out]; rfl, fun _ => ht6, hor.trans ho6⟩
set_option maxHeartbeats 1000000 in
theorem check_any (p : Pat) (ks : Value) (w : World) (hs : p.size < 99999) (hk : Kids w p.kids ks) :
    Calls Tryd.prog 22 #[(.agg #[.int .i64 p.op, .int .u64 (wd p.set 0), .int .u64 (wd p.set 1), .int .u64 (wd p.set 2), .int .u64 (wd p.set 3), .int .i64 p.lo, .int .i64 p.hi, ks])] w fun e w' => e = .returned (.int .i64 (bif p.fit 1 then 0 else 1)) ∧ Below w.heap.size w w' := by
  obtain ⟨a, cap, rfl⟩ := hk.len
  have hal := below2 w (.cells #[.int .i64 p.op, .int .u64 (wd p.set 0), .int .u64 (wd p.set 1), .int .u64 (wd p.set 2), .int .u64 (wd p.set 3), .int .i64 p.lo, .int .i64 p.hi, .slice a p.kids.length cap] 36) (.cells #[.int .i64 0, .int .i64 0, .int .u64 0, .int .u64 0, .int .u64 0, .int .u64 0] 93)
  have ht := Trav.new (w.alloc (.cells #[.int .i64 p.op, .int .u64 (wd p.set 0), .int .u64 (wd p.set 1), .int .u64 (wd p.set 2), .int .u64 (wd p.set 3), .int .i64 p.lo, .int .i64 p.hi, .slice a p.kids.length cap] 36)) (n := w.heap.size + 1) (by simp)
  have hmf : ∀ (fn : Fn) (first cap : Array Value) (w : World), (Instr.makeFunc fn first cap).run Tryd.prog w = .ok (.func fn first cap) w := fun _ _ _ _ => rfl
  cases hf : p.fit 1
  all_goals
    have HF := Lib.hid hf
    clear hf
    go_enter Tryd.func22, Tryd.ntmps22
    go_wp2_with (go_at_call 42; refine (walkc_any 99999 p _ (w.heap.size + 1) 0 0 0 w _ hs (by omega) (by omega) (by omega) hk hal (by omega) ht).mono ?_; rw [Nat.zero_add, HF.out]; rintro e w2 ⟨rfl, ht2, ho2⟩)
    go_ret
    exact ⟨rfl, hal.trans (ho2.1.mono (by omega))⟩
end Go.Proofs.YtpfhhdiipedklaaDoor
