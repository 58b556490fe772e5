/- Texts that a proof rests on: What the closures of the builder build: a set, a row; how many states. | What the closures of the builder build: a row of kids. | What the closures of the builder build: alternatives. | What the closures of the builder build: repetitions. -/
import Derived.Test.YtpfhhdiipedklaaDoorK13
import Derived.Test.YtpfhhdiipedklaaDoorK14
import Derived.Deep.RegionHeld3
set_option maxRecDepth 100000
namespace Go.Proofs.YtpfhhdiipedklaaDoor
open Go.RowKit

theorem good_ok (p : Pat) : p.good = true → p.ok = true := by
  induction p using Pat.by_size with | h p ih => ?_
  intro h
  rw [good_eq, Bool.and_eq_true, List.all_eq_true] at h
  rw [ok_eq, Bool.and_eq_true, List.all_eq_true]
  refine ⟨?_, fun q hq => ih q hq (h.2 q hq)⟩
  have h1 := of_decide_eq_true h.1
  by_cases h3 : p.op = 3
  · have := h1.2.2.2.1 (.inl h3); simp [this]
  by_cases h5 : p.op = 5
  · have := h1.2.2.2.1 (.inr h5); simp [this]
  · simp [h3, h5]
theorem good_kid {p q : Pat} (h : p.good = true) (hq : q ∈ p.kids) : q.good = true := by
  rw [good_eq, Bool.and_eq_true, List.all_eq_true] at h
  exact h.2 q hq
theorem good_num {p : Pat} (h : p.good = true) : 0 ≤ p.lo ∧ p.lo ≤ 32 ∧ p.hi ≤ 32 ∧ (0 ≤ p.hi → p.lo ≤ p.hi) := by
  rw [good_eq, Bool.and_eq_true] at h
  have h1 := of_decide_eq_true h.1
  exact ⟨h1.2.2.2.2.1, h1.2.2.2.2.2.1, h1.2.2.2.2.2.2.1, h1.2.2.2.2.2.2.2⟩
theorem good_one {p : Pat} (h : p.good = true) (h3 : p.op = 3) : p.kids.length = 1 := by
  rw [good_eq, Bool.and_eq_true] at h
  exact (of_decide_eq_true h.1).2.2.2.1 (.inl h3)
theorem good_set {p : Pat} (h : p.good = true) (h3 : p.op = 0) : p.kids = [] := by
  rw [good_eq, Bool.and_eq_true] at h
  exact List.eq_nil_of_length_eq_zero ((of_decide_eq_true h.1).2.2.1 h3)
theorem cnt_eq (p : Pat) : p.cnt = 2 + copies p.op p.lo p.hi * cntL p.kids := by cases p; simp only [Pat.cnt, Pat.op, Pat.lo, Pat.hi, Pat.kids]
/-- A kind's way, behind the two states of its own. -/
def inner (p : Pat) (c : Nat) (m : Mach) : Mach :=
  if p.op = 0 then m.arc c (c + 1) p.set
  else if p.op = 1 then (catB p.kids (m, c)).1.eps (catB p.kids (m, c)).2 (c + 1)
  else if p.op = 2 then altB p.kids c m
  else if p.op = 3 then
    if p.hi < 0 then (loopB (headB p.kids) (c + 1) (timesB (headB p.kids) p.lo.toNat (m, c))).1.eps (loopB (headB p.kids) (c + 1) (timesB (headB p.kids) p.lo.toNat (m, c))).2 (c + 1)
    else (optB (headB p.kids) (c + 1) (p.hi - p.lo).toNat (timesB (headB p.kids) p.lo.toNat (m, c))).1.eps (optB (headB p.kids) (c + 1) (p.hi - p.lo).toNat (timesB (headB p.kids) p.lo.toNat (m, c))).2 (c + 1)
  else m
theorem bld_inner (p : Pat) (m : Mach) : bld p m = inner p m.n m.two := by
  cases p; rw [bld]; rfl
theorem head_fun (q : Pat) : headB [q] = bld q := by funext m; rw [headB]
theorem pln_kid {p q : Pat} (h : p.pln = true) (hq : q ∈ p.kids) : q.pln = true := by
  rw [pln_eq, Bool.and_eq_true, List.all_eq_true] at h
  exact h.2 q hq
theorem pln_op {p : Pat} (h : p.pln = true) : p.op ≠ 4 ∧ p.op ≠ 5 := by
  rw [pln_eq, Bool.and_eq_true, Bool.and_eq_true] at h
  exact ⟨by simpa using h.1.1, by simpa using h.1.2⟩
theorem bld_n (p : Pat) : p.good = true → p.pln = true → ∀ m : Mach, (bld p m).n = m.n + p.cnt := by
  induction p using Pat.by_size with | h p ih => ?_
  intro hg hp m
  have hk : ∀ q ∈ p.kids, ∀ m, (bld q m).n = m.n + q.cnt := fun q hq => ih q hq (good_kid hg hq) (pln_kid hp hq)
  have hop : 0 ≤ p.op ∧ p.op ≤ 5 := by
    rw [good_eq, Bool.and_eq_true] at hg
    have h1 := of_decide_eq_true hg.1
    exact ⟨h1.1, h1.2.1⟩
  rw [bld_inner, cnt_eq, inner]
  by_cases h0 : p.op = 0
  · rw [if_pos h0, good_set hg h0]
    simp only [Mach.arc, Mach.two, cntL]; omega
  by_cases h1 : p.op = 1
  · rw [if_neg h0, if_pos h1, copies, if_neg (by omega)]
    simp only [Mach.eps]
    rw [cat_n hk]
    simp only [Mach.two]; omega
  by_cases h2 : p.op = 2
  · rw [if_neg h0, if_neg h1, if_pos h2, copies, if_neg (by omega), alt_n hk]
    simp only [Mach.two]; omega
  by_cases h3 : p.op = 3
  · obtain ⟨q, hq⟩ := List.length_eq_one_iff.1 (good_one hg h3)
    obtain ⟨g0, g1, g2, g3⟩ := good_num hg
    have hqn := hk q (by rw [hq]; simp)
    rw [if_neg h0, if_neg h1, if_neg h2, if_pos h3, copies, if_pos h3, hq, head_fun]
    simp only [cntL, Nat.add_zero]
    split
    · have e : ∀ y : Mach × Nat, (loopB (bld q) (m.n + 1) y).1.n = y.1.n + q.cnt := fun y => by simp only [loopB, Mach.eps]; rw [hqn]
      simp only [Mach.eps]
      rw [e, times_n hqn]
      simp only [Mach.two]
      rw [Nat.add_mul]; omega
    · rename_i hh
      simp only [Mach.eps]
      rw [opt_n hqn, times_n hqn]
      simp only [Mach.two]
      have : p.hi.toNat = p.lo.toNat + (p.hi - p.lo).toNat := by omega
      rw [this, Nat.add_mul]; omega
  · have := pln_op hp
    omega
theorem cat_take {l : List Pat} : ∀ {k : Nat} (hk : k < l.length) (q : Mach × Nat), catB (l.take (k + 1)) q = behind (bld l[k]) (catB (l.take k) q) := by
  induction l with
  | nil => intro k hk; simp at hk
  | cons p ps ih =>
    intro k hk q
    cases k with
    | zero => simp only [Nat.zero_add, List.take_succ_cons, List.take_zero, catB, List.getElem_cons_zero]
    | succ k => simp only [List.take_succ_cons, catB, List.getElem_cons_succ]; exact ih (by simpa using hk) _
theorem alt_take {l : List Pat} : ∀ {k : Nat} (hk : k < l.length) (c : Nat) (m : Mach), altB (l.take (k + 1)) c m = ((bld l[k] (altB (l.take k) c m)).eps c (altB (l.take k) c m).n).eps ((altB (l.take k) c m).n + 1) (c + 1) := by
  induction l with
  | nil => intro k hk; simp at hk
  | cons p ps ih =>
    intro k hk c m
    cases k with
    | zero => simp only [Nat.zero_add, List.take_succ_cons, List.take_zero, altB, List.getElem_cons_zero]
    | succ k => simp only [List.take_succ_cons, altB, List.getElem_cons_succ]; exact ih (by simpa using hk) _ _
theorem cntL_take (l : List Pat) (k : Nat) (hk : k < l.length) : cntL (l.take k) + l[k].cnt ≤ cntL l := by
  induction l generalizing k with
  | nil => simp at hk
  | cons p ps ih =>
    cases k with
    | zero => simp [cntL]
    | succ k => have := ih k (by simpa using hk); simp only [List.take_succ_cons, cntL, List.getElem_cons_succ]; omega
/-- What is asked of the kids of a pattern that is built. -/
structure KidsB (w0 : World) (bb bv mb : Nat) (p : Pat) : Prop where
  good : p.good = true
  pln : p.pln = true
  all : ∀ q ∈ p.kids, BuildC w0 bb bv mb q
theorem KidsB.frag {w0 : World} {bb bv mb : Nat} {p : Pat} (h : KidsB w0 bb bv mb p) {q : Pat} (hq : q ∈ p.kids) : Frag (bld q) := bld_frag q (good_ok q (good_kid h.good hq))
theorem KidsB.n {w0 : World} {bb bv mb : Nat} {p : Pat} (h : KidsB w0 bb bv mb p) {q : Pat} (hq : q ∈ p.kids) (m : Mach) : (bld q m).n = m.n + q.cnt := bld_n q (good_kid h.good hq) (pln_kid h.pln hq) m
/-- A row's state behind so many kids. -/
theorem KidsB.cat {w0 : World} {bb bv mb : Nat} {p : Pat} (h : KidsB w0 bb bv mb p) (m : Mach) (c k : Nat) (hc : c < m.n) (he : m.e.length ≤ 2 * m.n) (ha : m.a.length ≤ m.n) :
    (catB (p.kids.take k) (m, c)).1.e.length ≤ 2 * (catB (p.kids.take k) (m, c)).1.n ∧ (catB (p.kids.take k) (m, c)).1.a.length ≤ (catB (p.kids.take k) (m, c)).1.n ∧ (catB (p.kids.take k) (m, c)).1.n = m.n + cntL (p.kids.take k) ∧ (catB (p.kids.take k) (m, c)).2 < (catB (p.kids.take k) (m, c)).1.n := by
  have hs := cat_step (l := p.kids.take k) (fun q hq => h.frag (List.mem_of_mem_take hq)) m c hc
  have hn := cat_n (l := p.kids.take k) (fun q hq m => h.n (List.mem_of_mem_take hq) m) (m, c)
  have := hs.1.e
  have := hs.1.a
  exact ⟨by omega, by omega, hn, hs.2⟩
theorem KidsB.alt {w0 : World} {bb bv mb : Nat} {p : Pat} (h : KidsB w0 bb bv mb p) (m : Mach) (c k : Nat) (hc : c + 1 < m.n) (he : m.e.length ≤ 2 * m.n) (ha : m.a.length ≤ m.n) :
    (altB (p.kids.take k) c m).e.length ≤ 2 * (altB (p.kids.take k) c m).n ∧ (altB (p.kids.take k) c m).a.length ≤ (altB (p.kids.take k) c m).n ∧ (altB (p.kids.take k) c m).n = m.n + cntL (p.kids.take k) := by
  have hs := alt_step (l := p.kids.take k) (fun q hq => h.frag (List.mem_of_mem_take hq)) m c hc
  have hn := alt_n (l := p.kids.take k) (fun q hq m => h.n (List.mem_of_mem_take hq) m) c m
  have := hs.e
  have := hs.a
  exact ⟨by omega, by omega, hn⟩
set_option maxHeartbeats 2000000 in
theorem setclo_any (w0 : World) (bb bv mb : Nat) (p : Pat) (m : Mach) (c d : Nat) (ks : Value) (w : World) (h : St w0 bb bv mb m w) (hk : Kids w0 p.kids ks) (ha : m.a.length ≤ 50000) :
    Calls Tryd.prog 46 #[.agg #[.int .i64 c, .int .i64 d], (.agg #[.int .i64 p.op, .int .u64 (wd p.set 0), .int .u64 (wd p.set 1), .int .u64 (wd p.set 2), .int .u64 (wd p.set 3), .int .i64 p.lo, .int .i64 p.hi, ks]), ptr bv] w (Built w0 bb bv mb (.tuple #[]) (m.arc c d p.set) w) := by
  obtain ⟨a, cap, rfl⟩ := hk.len
  obtain ⟨N, hN⟩ : ∃ N, w.heap.size = N := ⟨_, rfl⟩
  obtain ⟨w2, hw2⟩ : ∃ w2, w2 = (w.alloc (.cells #[.int .i64 c, .int .i64 d] 62)).alloc (.cells #[.int .i64 p.op, .int .u64 (wd p.set 0), .int .u64 (wd p.set 1), .int .u64 (wd p.set 2), .int .u64 (wd p.set 3), .int .i64 p.lo, .int .i64 p.hi, .slice a p.kids.length cap] 36) := ⟨_, rfl⟩
  have hb2 : Below w.heap.size w w2 := by rw [hw2]; exact below2 w _ _
  have hf : w2.heap[N]? = some (.cells #[.int .i64 c, .int .i64 d] 62 (0, 0)) := by rw [hw2, heap_alloc_old _ _ (by simp; omega), ← hN]; exact heap_alloc_new w _
  have hnode : w2.heap[N + 1]? = some (.cells #[.int .i64 p.op, .int .u64 (wd p.set 0), .int .u64 (wd p.set 1), .int .u64 (wd p.set 2), .int .u64 (wd p.set 3), .int .i64 p.lo, .int .i64 p.hi, .slice a p.kids.length cap] 36 (0, 0)) := by
    have := heap_alloc_new (w.alloc (.cells #[.int .i64 c, .int .i64 d] 62)) (.cells #[.int .i64 p.op, .int .u64 (wd p.set 0), .int .u64 (wd p.set 1), .int .u64 (wd p.set 2), .int .u64 (wd p.set 3), .int .i64 p.lo, .int .i64 p.hi, .slice a p.kids.length cap] 36)
    rw [World.size_alloc, hN] at this
    rw [hw2]; exact this
  have hS2 := h.next hb2
  have HC := Lib.hid (arc_any w0 bb bv mb m c d p.set w2 hS2 (by omega))
  have HK := Lib.hid (Keep.below hb2)
  have HW := Lib.hid hw2
  obtain ⟨ve, va, hBS⟩ := hS2
  obtain ⟨_, _, _, _, cv⟩ := hBS.cells
  obtain ⟨f0, f1⟩ := frag_cells hf
  obtain ⟨k0, k1, k2, k3, k4, k5, k6, k7⟩ := node_cells hnode
  clear hb2 hw2 hf hnode hBS
  go_enter Tryd.func46, Tryd.ntmps46
  go_upto_region 1 with fail
  rw [← HW.out]
  go_wp2_with (go_at_call 47; refine HC.out.mono ?_; rintro e w3 ⟨rfl, HS3, HK3⟩)
  go_end0
  exact ⟨rfl, HS3, Lib.hid (HK.out.trans HK3.out)⟩
end Go.Proofs.YtpfhhdiipedklaaDoor
set_option maxRecDepth 100000
namespace Go.Proofs.YtpfhhdiipedklaaDoor
open Go.RowKit

set_option maxHeartbeats 4000000 in
theorem catclo_any (w0 : World) (bb bv mb : Nat) (p : Pat) (m : Mach) (c d : Nat) (ks : Value) (w : World) (h : St w0 bb bv mb m w) (hk : Kids w0 p.kids ks) (H : KidsB w0 bb bv mb p) (hd : d = c + 1) (hdn : d < m.n) (he : m.e.length ≤ 2 * m.n) (ha : m.a.length ≤ m.n) (hl : p.kids.length ≤ 10000) (hn : m.n + cntL p.kids ≤ 20000) :
    Calls Tryd.prog 48 #[.agg #[.int .i64 c, .int .i64 d], (.agg #[.int .i64 p.op, .int .u64 (wd p.set 0), .int .u64 (wd p.set 1), .int .u64 (wd p.set 2), .int .u64 (wd p.set 3), .int .i64 p.lo, .int .i64 p.hi, ks]), ptr bv] w (Built w0 bb bv mb (.tuple #[]) ((catB p.kids (m, c)).1.eps (catB p.kids (m, c)).2 d) w) := by
  obtain ⟨a, cap, rfl⟩ := hk.len
  obtain ⟨N, hN⟩ : ∃ N, w.heap.size = N := ⟨_, rfl⟩
  obtain ⟨w2, hw2⟩ : ∃ w2, w2 = (w.alloc (.cells #[.int .i64 c, .int .i64 d] 62)).alloc (.cells #[.int .i64 p.op, .int .u64 (wd p.set 0), .int .u64 (wd p.set 1), .int .u64 (wd p.set 2), .int .u64 (wd p.set 3), .int .i64 p.lo, .int .i64 p.hi, .slice a p.kids.length cap] 36) := ⟨_, rfl⟩
  have hb2 : Below w.heap.size w w2 := by rw [hw2]; exact below2 w _ _
  have hf : w2.heap[N]? = some (.cells #[.int .i64 c, .int .i64 d] 62 (0, 0)) := by rw [hw2, heap_alloc_old _ _ (by simp; omega), ← hN]; exact heap_alloc_new w _
  have hnode : w2.heap[N + 1]? = some (.cells #[.int .i64 p.op, .int .u64 (wd p.set 0), .int .u64 (wd p.set 1), .int .u64 (wd p.set 2), .int .u64 (wd p.set 3), .int .i64 p.lo, .int .i64 p.hi, .slice a p.kids.length cap] 36 (0, 0)) := by
    have := heap_alloc_new (w.alloc (.cells #[.int .i64 c, .int .i64 d] 62)) (.cells #[.int .i64 p.op, .int .u64 (wd p.set 0), .int .u64 (wd p.set 1), .int .u64 (wd p.set 2), .int .u64 (wd p.set 3), .int .i64 p.lo, .int .i64 p.hi, .slice a p.kids.length cap] 36)
    rw [World.size_alloc, hN] at this
    rw [hw2]; exact this
  have HS2 := Lib.hid (h.next hb2)
  have HK2 := Lib.hid (Keep.below hb2)
  have HW := Lib.hid hw2
  have HF := Lib.hid hf
  have HN := Lib.hid hnode
  have HH := Lib.hid H
  have HKD := Lib.hid hk
  obtain ⟨ve, va, hBS⟩ := h.next hb2
  obtain ⟨_, _, _, _, cv⟩ := hBS.cells
  obtain ⟨f0, f1⟩ := frag_cells hf
  obtain ⟨k0, k1, k2, k3, k4, k5, k6, k7⟩ := node_cells hnode
  have HD := Lib.hid hd
  clear hb2 hw2 hf hnode hBS hk H hd
  go_enter Tryd.func48, Tryd.ntmps48
  go_upto_region 1 with fail
  rw [← HW.out]
  go_wp2
  go_loopw [5, 13] (fun v x wr => ∃ (k : Nat) (m' : Mach) (y : Nat), x = .int .i64 k ∧ k ≤ p.kids.length ∧ v = .int .i64 y ∧ Hid ((m', y) = catB (p.kids.take k) (m, c)) ∧ Hid (St w0 bb bv mb m' wr) ∧ Hid (Keep w2 wr)) (fun _ x _ => p.kids.length - (intOf x).toNat)
  case atStart => exact ⟨0, m, c, rfl, Nat.zero_le _, rfl, Lib.hid (by rw [List.take_zero, catB]), HS2, Lib.hid (Keep.refl _)⟩
  case round =>
    clear f0 f1 k0 k1 k2 k3 k4 k5 k6 k7 cv
    obtain ⟨k, m', y, rfl, hkk, rfl, HM, HS, HKP⟩ := hrel
    obtain ⟨f0, f1⟩ := frag_cells (HKP.out.block N _ HF.out (else_frag _))
    obtain ⟨k0, k1, k2, k3, k4, k5, k6, k7⟩ := node_cells (HKP.out.block (N + 1) _ HN.out (else_node _))
    obtain ⟨ve2, va2, hBS⟩ := HS.out
    obtain ⟨_, _, _, _, cv⟩ := hBS.cells
    have hin := HH.out.cat m c k (by have := HD.out; omega) he ha
    rw [← HM.out] at hin
    dsimp only at hin
    by_cases hlt : k < p.kids.length
    · have hdd : decide ((k : Int) < p.kids.length) = true := by simpa using hlt
      have hcn := cntL_take p.kids k hlt
      have hqn := HH.out.n (List.getElem_mem hlt) m'
      obtain ⟨b', o', cap', e, hr⟩ := HKD.out.row (by omega)
      cases e
      obtain ⟨ks', hks, e0, e1, e2, e3, e4, e5, e6, e7⟩ := (hr.at k hlt).load
      obtain ⟨ka, kc, rfl⟩ := hks.len
      replace e0 := cell_below hBS.below e0
      replace e1 := cell_below hBS.below e1
      replace e2 := cell_below hBS.below e2
      replace e3 := cell_below hBS.below e3
      replace e4 := cell_below hBS.below e4
      replace e5 := cell_below hBS.below e5
      replace e6 := cell_below hBS.below e6
      replace e7 := cell_below hBS.below e7
      have HQ := Lib.hid (HH.out.all _ (List.getElem_mem hlt))
      have HFQ := Lib.hid (HH.out.frag (List.getElem_mem hlt))
      have HTK := Lib.hid (cat_take hlt (m, c))
      rw [← HM.out] at HTK
      obtain ⟨i1, i2, i3, _⟩ := hin
      generalize p.kids[k] = q at *
      clear hr hBS
      go_upto_region 5 with fail
      obtain ⟨g, hg⟩ : ∃ g, wr.heap.size = g := ⟨_, rfl⟩
      obtain ⟨w5, hw5⟩ : ∃ w5, wr.alloc (.cells #[.int .i64 q.op, .int .u64 (wd q.set 0), .int .u64 (wd q.set 1), .int .u64 (wd q.set 2), .int .u64 (wd q.set 3), .int .i64 q.lo, .int .i64 q.hi, .slice ka q.kids.length kc] 36) = w5 := ⟨_, rfl⟩
      have hb5 : Below wr.heap.size wr w5 := by rw [← hw5]; exact new_one wr _
      have hx5 : w5.heap[g]? = some (.cells #[.int .i64 q.op, .int .u64 (wd q.set 0), .int .u64 (wd q.set 1), .int .u64 (wd q.set 2), .int .u64 (wd q.set 3), .int .i64 q.lo, .int .i64 q.hi, .slice ka q.kids.length kc] 36 (0, 0)) := by rw [← hw5, ← hg]; exact heap_alloc_new wr _
      have HS5 := Lib.hid (HS.out.next hb5)
      have HK5 := Lib.hid (HKP.out.trans (Keep.below hb5))
      have cv5 : w5.cell? ⟨bv, 0, none⟩ = some (ptr bb) := cell_below hb5 cv
      have HCC := Lib.hid (behind_any w0 bb bv mb q HFQ.out HQ.out m' m'.n (m'.n + 1) y (.slice ka q.kids.length kc) w5 rfl rfl HS5.out hks i1 i2 (by omega))
      clear e0 e1 e2 e3 e4 e5 e6 e7 k0 k1 k2 k3 k4 k5 k6 k7 f0 f1 cv
      obtain ⟨e0, e1, e2, e3, e4, e5, e6, e7⟩ := node_cells hx5
      rw [hw5, hg]
      clear hw5 hb5 hx5 hg
      go_wp2_with (go_at_call 49; refine HCC.out.mono ?_; rintro e w6 ⟨rfl, HS6, HK6⟩)
      go_roundw
      case rel => exact ⟨k + 1, (behind (bld q) (m', y)).1, m'.n + 1, num_succ k, by omega, by simp; omega, Lib.hid (by rw [HTK.out]; rfl), HS6, Lib.hid (HK5.out.trans HK6.out)⟩
      case measure => simp [intOf]; omega
    · obtain rfl : k = p.kids.length := by omega
      have hdd : decide ((p.kids.length : Int) < p.kids.length) = false := by simp
      rw [List.take_length] at HM hin
      obtain ⟨i1, i2, i3, _⟩ := hin
      have HE := Lib.hid (eps_any w0 bb bv mb m' y d wr HS.out (by omega))
      clear hBS
      go_wp2_with (go_at_call 50; refine HE.out.mono ?_; rintro e w6 ⟨rfl, HS6, HK6⟩)
      go_end0
      refine ⟨rfl, ?_, Lib.hid ((HK2.out.trans HKP.out).trans HK6.out)⟩
      rw [← HM.out]; exact HS6
end Go.Proofs.YtpfhhdiipedklaaDoor
set_option maxRecDepth 100000
namespace Go.Proofs.YtpfhhdiipedklaaDoor
open Go.RowKit

theorem keep_drew (w : World) : Keep w w.drew := ⟨Nat.le_refl _, fun _ _ h _ => h⟩
theorem St.drew {w0 w : World} {bb bv mb : Nat} {m : Mach} (h : St w0 bb bv mb m w) : St w0 bb bv mb m w.drew := h.next ((Below.refl _ w).drew)
theorem alt_hold {w5 W W' : World} {bb bv N g c d : Nat} {q : Pat} {ka : Option Addr} {kc : Nat} (hv : w5.heap[bv]? = some (.cells #[ptr bb] 59 (0, 0))) (hf : w5.heap[N]? = some (.cells #[.int .i64 c, .int .i64 d] 62 (0, 0))) (hx : w5.heap[g]? = some (.cells #[.int .i64 q.op, .int .u64 (wd q.set 0), .int .u64 (wd q.set 1), .int .u64 (wd q.set 2), .int .u64 (wd q.set 3), .int .i64 q.lo, .int .i64 q.hi, .slice ka q.kids.length kc] 36 (0, 0)))
    (h : Keep w5 W) (hk : Keep W W') : W'.cell? ⟨bv, 0, none⟩ = some (ptr bb) ∧ W'.cell? ⟨N, 0, none⟩ = some (.int .i64 c) ∧ W'.cell? ⟨N, 1, none⟩ = some (.int .i64 d) ∧ W'.cell? ⟨g, 0, none⟩ = some (.int .i64 q.op) ∧ W'.cell? ⟨g, 1, none⟩ = some (.int .u64 (wd q.set 0)) ∧ W'.cell? ⟨g, 2, none⟩ = some (.int .u64 (wd q.set 1)) ∧ W'.cell? ⟨g, 3, none⟩ = some (.int .u64 (wd q.set 2)) ∧ W'.cell? ⟨g, 4, none⟩ = some (.int .u64 (wd q.set 3)) ∧ W'.cell? ⟨g, 5, none⟩ = some (.int .i64 q.lo) ∧ W'.cell? ⟨g, 6, none⟩ = some (.int .i64 q.hi) ∧ W'.cell? ⟨g, 7, none⟩ = some (.slice ka q.kids.length kc) ∧ Keep w5 W' := by
  have hk' := h.trans hk
  obtain ⟨f0, f1⟩ := frag_cells (hk'.block N _ hf (else_frag _))
  obtain ⟨k0, k1, k2, k3, k4, k5, k6, k7⟩ := node_cells (hk'.block g _ hx (else_node _))
  have hv' := hk'.block bv _ hv (by simp [Else])
  exact ⟨(cell_of_row _ _ 0 _ _ _ hv').trans rfl, f0, f1, k0, k1, k2, k3, k4, k5, k6, k7, hk'⟩
theorem alt_keep {w5 W : World} {bb bv N g c d : Nat} {q : Pat} {ka : Option Addr} {kc : Nat} (h : W.cell? ⟨bv, 0, none⟩ = some (ptr bb) ∧ W.cell? ⟨N, 0, none⟩ = some (.int .i64 c) ∧ W.cell? ⟨N, 1, none⟩ = some (.int .i64 d) ∧ W.cell? ⟨g, 0, none⟩ = some (.int .i64 q.op) ∧ W.cell? ⟨g, 1, none⟩ = some (.int .u64 (wd q.set 0)) ∧ W.cell? ⟨g, 2, none⟩ = some (.int .u64 (wd q.set 1)) ∧ W.cell? ⟨g, 3, none⟩ = some (.int .u64 (wd q.set 2)) ∧ W.cell? ⟨g, 4, none⟩ = some (.int .u64 (wd q.set 3)) ∧ W.cell? ⟨g, 5, none⟩ = some (.int .i64 q.lo) ∧ W.cell? ⟨g, 6, none⟩ = some (.int .i64 q.hi) ∧ W.cell? ⟨g, 7, none⟩ = some (.slice ka q.kids.length kc) ∧ Keep w5 W) : Keep w5 W := h.2.2.2.2.2.2.2.2.2.2.2
set_option maxHeartbeats 4000000 in
theorem altclo_any (w0 : World) (bb bv mb : Nat) (p : Pat) (m : Mach) (c d : Nat) (ks : Value) (w : World) (h : St w0 bb bv mb m w) (hk : Kids w0 p.kids ks) (H : KidsB w0 bb bv mb p) (hd : d = c + 1) (hdn : d < m.n) (he : m.e.length ≤ 2 * m.n) (ha : m.a.length ≤ m.n) (hl : p.kids.length ≤ 10000) (hn : m.n + cntL p.kids ≤ 20000) :
    Calls Tryd.prog 51 #[.agg #[.int .i64 c, .int .i64 d], (.agg #[.int .i64 p.op, .int .u64 (wd p.set 0), .int .u64 (wd p.set 1), .int .u64 (wd p.set 2), .int .u64 (wd p.set 3), .int .i64 p.lo, .int .i64 p.hi, ks]), ptr bv] w (Built w0 bb bv mb (.tuple #[]) (altB p.kids c m) w) := by
  obtain ⟨a, cap, rfl⟩ := hk.len
  obtain ⟨N, hN⟩ : ∃ N, w.heap.size = N := ⟨_, rfl⟩
  obtain ⟨w2, hw2⟩ : ∃ w2, w2 = (w.alloc (.cells #[.int .i64 c, .int .i64 d] 62)).alloc (.cells #[.int .i64 p.op, .int .u64 (wd p.set 0), .int .u64 (wd p.set 1), .int .u64 (wd p.set 2), .int .u64 (wd p.set 3), .int .i64 p.lo, .int .i64 p.hi, .slice a p.kids.length cap] 36) := ⟨_, rfl⟩
  have hb2 : Below w.heap.size w w2 := by rw [hw2]; exact below2 w _ _
  have hf : w2.heap[N]? = some (.cells #[.int .i64 c, .int .i64 d] 62 (0, 0)) := by rw [hw2, heap_alloc_old _ _ (by simp; omega), ← hN]; exact heap_alloc_new w _
  have hnode : w2.heap[N + 1]? = some (.cells #[.int .i64 p.op, .int .u64 (wd p.set 0), .int .u64 (wd p.set 1), .int .u64 (wd p.set 2), .int .u64 (wd p.set 3), .int .i64 p.lo, .int .i64 p.hi, .slice a p.kids.length cap] 36 (0, 0)) := by
    have := heap_alloc_new (w.alloc (.cells #[.int .i64 c, .int .i64 d] 62)) (.cells #[.int .i64 p.op, .int .u64 (wd p.set 0), .int .u64 (wd p.set 1), .int .u64 (wd p.set 2), .int .u64 (wd p.set 3), .int .i64 p.lo, .int .i64 p.hi, .slice a p.kids.length cap] 36)
    rw [World.size_alloc, hN] at this
    rw [hw2]; exact this
  have HS2 := Lib.hid (h.next hb2)
  have HK2 := Lib.hid (Keep.below hb2)
  have HW := Lib.hid hw2
  have HF := Lib.hid hf
  have HN := Lib.hid hnode
  have HH := Lib.hid H
  have HKD := Lib.hid hk
  obtain ⟨ve, va, hBS⟩ := h.next hb2
  obtain ⟨_, _, _, _, cv⟩ := hBS.cells
  obtain ⟨f0, f1⟩ := frag_cells hf
  obtain ⟨k0, k1, k2, k3, k4, k5, k6, k7⟩ := node_cells hnode
  have HD := Lib.hid hd
  clear hb2 hw2 hf hnode hBS hk H hd
  go_enter Tryd.func51, Tryd.ntmps51
  go_upto_region 1 with fail
  rw [← HW.out]
  go_wp2
  go_loopw [10] (fun x wr => ∃ (k : Nat) (m' : Mach), x = .int .i64 k ∧ k ≤ p.kids.length ∧ Hid (m' = altB (p.kids.take k) c m) ∧ Hid (St w0 bb bv mb m' wr) ∧ Hid (Keep w2 wr)) (fun x _ => p.kids.length - (intOf x).toNat)
  case atStart => exact ⟨0, m, rfl, Nat.zero_le _, Lib.hid (by rw [List.take_zero, altB]), HS2, Lib.hid (Keep.refl _)⟩
  case round =>
    clear f0 f1 k0 k1 k2 k3 k4 k5 k6 k7 cv
    obtain ⟨k, m', rfl, hkk, HM, HS, HKP⟩ := hrel
    obtain ⟨k0, k1, k2, k3, k4, k5, k6, k7⟩ := node_cells (HKP.out.block (N + 1) _ HN.out (else_node _))
    obtain ⟨ve2, va2, hBS⟩ := HS.out
    have hin := HH.out.alt m c k (by have := HD.out; omega) he ha
    rw [← HM.out] at hin
    by_cases hlt : k < p.kids.length
    · have hdd : decide ((k : Int) < p.kids.length) = true := by simpa using hlt
      have hcn := cntL_take p.kids k hlt
      have hqn := HH.out.n (List.getElem_mem hlt) m'
      obtain ⟨b', o', cap', e, hr⟩ := HKD.out.row (by omega)
      cases e
      obtain ⟨ks', hks, e0, e1, e2, e3, e4, e5, e6, e7⟩ := (hr.at k hlt).load
      obtain ⟨ka, kc, rfl⟩ := hks.len
      replace e0 := cell_below hBS.below e0
      replace e1 := cell_below hBS.below e1
      replace e2 := cell_below hBS.below e2
      replace e3 := cell_below hBS.below e3
      replace e4 := cell_below hBS.below e4
      replace e5 := cell_below hBS.below e5
      replace e6 := cell_below hBS.below e6
      replace e7 := cell_below hBS.below e7
      have HQ := Lib.hid (HH.out.all _ (List.getElem_mem hlt))
      have HFQ := Lib.hid (HH.out.frag (List.getElem_mem hlt))
      have HTK := Lib.hid (alt_take hlt c m)
      rw [← HM.out] at HTK
      obtain ⟨i1, i2, i3⟩ := hin
      generalize p.kids[k] = q at *
      clear hr
      go_upto_region 4 with fail
      obtain ⟨g, hg⟩ : ∃ g, wr.heap.size = g := ⟨_, rfl⟩
      obtain ⟨w5, hw5⟩ : ∃ w5, wr.alloc (.cells #[.int .i64 q.op, .int .u64 (wd q.set 0), .int .u64 (wd q.set 1), .int .u64 (wd q.set 2), .int .u64 (wd q.set 3), .int .i64 q.lo, .int .i64 q.hi, .slice ka q.kids.length kc] 36) = w5 := ⟨_, rfl⟩
      have hb5 : Below wr.heap.size wr w5 := by rw [← hw5]; exact new_one wr _
      have hx5 : w5.heap[g]? = some (.cells #[.int .i64 q.op, .int .u64 (wd q.set 0), .int .u64 (wd q.set 1), .int .u64 (wd q.set 2), .int .u64 (wd q.set 3), .int .i64 q.lo, .int .i64 q.hi, .slice ka q.kids.length kc] 36 (0, 0)) := by rw [← hw5, ← hg]; exact heap_alloc_new wr _
      have HK5 := Lib.hid (HKP.out.trans (Keep.below hb5))
      have hv5 := (hBS.next hb5).var
      have hf5 := HK5.out.block N _ HF.out (else_frag _)
      have hst5 := (HS.out.next hb5).drew
      have HV5 := Lib.hid hv5
      have HF5 := Lib.hid hf5
      have HX5 := Lib.hid hx5
      have CB : Hid (∀ W, St w0 bb bv mb m' W → Calls Tryd.prog 49 #[ptr bb, .int .i64 c, (.agg #[.int .i64 q.op, .int .u64 (wd q.set 0), .int .u64 (wd q.set 1), .int .u64 (wd q.set 2), .int .u64 (wd q.set 3), .int .i64 q.lo, .int .i64 q.hi, .slice ka q.kids.length kc])] W fun e W' => ∃ z : Nat, e = .returned (.int .i64 z) ∧ Hid (z = m'.n + 1) ∧ St w0 bb bv mb ((bld q m').eps c m'.n) W' ∧ Keep W W') := Lib.hid fun W hW => by
        refine (behind_any w0 bb bv mb q HFQ.out HQ.out m' m'.n (m'.n + 1) c (.slice ka q.kids.length kc) W rfl rfl hW hks i1 i2 (by omega)).mono ?_
        rintro e W' ⟨rfl, h1, h2⟩
        exact ⟨m'.n + 1, rfl, rfl, h1.out, h2.out⟩
      have hel : ((bld q m').eps c m'.n).e.length < 100000 := by
        have := (HFQ.out m').1.e
        simp only [Mach.eps, List.length_append, List.length_singleton]; omega
      have CE : Hid (∀ W (z : Nat), St w0 bb bv mb ((bld q m').eps c m'.n) W → Calls Tryd.prog 50 #[ptr bb, .int .i64 z, .int .i64 d] W fun e W' => e = .returned (.tuple #[]) ∧ Hid (St w0 bb bv mb (((bld q m').eps c m'.n).eps z d) W') ∧ Keep W W') := Lib.hid fun W z hW => by
        refine (eps_any w0 bb bv mb _ z d W hW hel).mono ?_
        rintro e W' ⟨rfl, h1, h2⟩
        exact ⟨rfl, h1, h2.out⟩
      rw [hw5, hg]
      clear hw5 hb5 hx5 hg hv5 hf5 hBS e0 e1 e2 e3 e4 e5 e6 e7 k0 k1 k2 k3 k4 k5 k6 k7
      go_region_held3 (fun W => W.cell? ⟨bv, 0, none⟩ = some (ptr bb) ∧ W.cell? ⟨N, 0, none⟩ = some (.int .i64 c) ∧ W.cell? ⟨N, 1, none⟩ = some (.int .i64 d) ∧ W.cell? ⟨g, 0, none⟩ = some (.int .i64 q.op) ∧ W.cell? ⟨g, 1, none⟩ = some (.int .u64 (wd q.set 0)) ∧ W.cell? ⟨g, 2, none⟩ = some (.int .u64 (wd q.set 1)) ∧ W.cell? ⟨g, 3, none⟩ = some (.int .u64 (wd q.set 2)) ∧ W.cell? ⟨g, 4, none⟩ = some (.int .u64 (wd q.set 3)) ∧ W.cell? ⟨g, 5, none⟩ = some (.int .i64 q.lo) ∧ W.cell? ⟨g, 6, none⟩ = some (.int .i64 q.hi) ∧ W.cell? ⟨g, 7, none⟩ = some (.slice ka q.kids.length kc) ∧ Keep w5 W)
        (first | (with_reducible exact alt_hold HV5.out HF5.out HX5.out (alt_keep (by assumption)) (by assumption)) | (with_reducible exact alt_hold HV5.out HF5.out HX5.out (Keep.refl _) (keep_drew _)))
        (first
          | (go_at_call 49; (with_reducible refine (CB.out _ (by assumption)).mono ?_); rintro e w6 ⟨z, rfl, HZ, hst6, hk6⟩)
          | (go_at_call 50; (with_reducible refine (CE.out _ _ (by assumption)).mono ?_); rintro e w7 ⟨rfl, HS7, hk7⟩))
      have HFIN := Lib.hid (((HK5.out.trans (keep_drew w5)).trans hk6).trans hk7)
      clear hk6 hk7 hst6 hst5
      go_wp2
      go_roundw
      case rel => exact ⟨k + 1, ((bld q m').eps c m'.n).eps z d, num_succ k, by omega, Lib.hid (by rw [HTK.out, HZ.out, HD.out]), HS7, HFIN⟩
      case measure => simp [intOf]; omega
    · obtain rfl : k = p.kids.length := by omega
      have hdd : decide ((p.kids.length : Int) < p.kids.length) = false := by simp
      rw [List.take_length] at HM
      clear hBS
      go_wp2
      go_end0
      exact ⟨rfl, by rw [← HM.out]; exact HS, Lib.hid (HK2.out.trans HKP.out)⟩
end Go.Proofs.YtpfhhdiipedklaaDoor
set_option maxRecDepth 100000
namespace Go.Proofs.YtpfhhdiipedklaaDoor
open Go.RowKit

theorem times_snoc (f : Mach → Mach) : ∀ (k : Nat) (q : Mach × Nat), timesB f (k + 1) q = behind f (timesB f k q)
  | 0, q => by simp only [timesB]
  | k + 1, q => by
    have := times_snoc f k (behind f q)
    rw [timesB, this, timesB]
theorem opt_snoc (f : Mach → Mach) (e : Nat) : ∀ (k : Nat) (q : Mach × Nat), optB f e (k + 1) q = behind f ((optB f e k q).1.eps (optB f e k q).2 e, (optB f e k q).2)
  | 0, q => by simp only [optB]
  | k + 1, q => by
    have := opt_snoc f e k (behind f (q.1.eps q.2 e, q.2))
    rw [optB, this, optB]
theorem St.below {w0 w : World} {bb bv mb : Nat} {m : Mach} (h : St w0 bb bv mb m w) : Below w0.heap.size w0 w := by
  obtain ⟨ve, va, h⟩ := h
  exact h.below
theorem St.var {w0 w : World} {bb bv mb : Nat} {m : Mach} (h : St w0 bb bv mb m w) : w.heap[bv]? = some (.cells #[ptr bb] 59 (0, 0)) := by
  obtain ⟨ve, va, h⟩ := h
  exact h.var
/-- What the rounds of a repetition lean on. -/
structure RepW (w0 w2 : World) (bb bv N c d : Nat) (p q : Pat) (kb ko : Nat) (cap : Nat) (ka : Option Addr) (kc : Nat) : Prop where
  var : w2.heap[bv]? = some (.cells #[ptr bb] 59 (0, 0))
  frag : w2.heap[N]? = some (.cells #[.int .i64 c, .int .i64 d] 62 (0, 0))
  node : w2.heap[N + 1]? = some (.cells #[.int .i64 p.op, .int .u64 (wd p.set 0), .int .u64 (wd p.set 1), .int .u64 (wd p.set 2), .int .u64 (wd p.set 3), .int .i64 p.lo, .int .i64 p.hi, .slice (some ⟨kb, ko, none⟩) 1 cap] 36 (0, 0))
  kid : w0.cell? ⟨kb, ko, none⟩ = some (.int .i64 q.op) ∧ w0.cell? ⟨kb, ko + 1, none⟩ = some (.int .u64 (wd q.set 0)) ∧ w0.cell? ⟨kb, ko + 1 + 1, none⟩ = some (.int .u64 (wd q.set 1)) ∧ w0.cell? ⟨kb, ko + 1 + 1 + 1, none⟩ = some (.int .u64 (wd q.set 2)) ∧ w0.cell? ⟨kb, ko + 1 + 1 + 1 + 1, none⟩ = some (.int .u64 (wd q.set 3)) ∧ w0.cell? ⟨kb, ko + 1 + 1 + 1 + 1 + 1, none⟩ = some (.int .i64 q.lo) ∧ w0.cell? ⟨kb, ko + 1 + 1 + 1 + 1 + 1 + 1, none⟩ = some (.int .i64 q.hi) ∧ w0.cell? ⟨kb, ko + 1 + 1 + 1 + 1 + 1 + 1 + 1, none⟩ = some (.slice ka q.kids.length kc)
theorem rep_hold {w0 w2 W : World} {bb bv N c d : Nat} {p q : Pat} {kb ko cap : Nat} {ka : Option Addr} {kc : Nat} (h : RepW w0 w2 bb bv N c d p q kb ko cap ka kc) (hk : Keep w2 W) (hb : Below w0.heap.size w0 W) : W.cell? ⟨bv, 0, none⟩ = some (ptr bb) ∧ W.cell? ⟨N, 0, none⟩ = some (.int .i64 c) ∧ W.cell? ⟨N, 1, none⟩ = some (.int .i64 d) ∧ W.cell? ⟨N + 1, 5, none⟩ = some (.int .i64 p.lo) ∧ W.cell? ⟨N + 1, 6, none⟩ = some (.int .i64 p.hi) ∧ W.cell? ⟨N + 1, 7, none⟩ = some (.slice (some ⟨kb, ko, none⟩) 1 cap) ∧ W.cell? ⟨kb, ko, none⟩ = some (.int .i64 q.op) ∧ W.cell? ⟨kb, ko + 1, none⟩ = some (.int .u64 (wd q.set 0)) ∧ W.cell? ⟨kb, ko + 1 + 1, none⟩ = some (.int .u64 (wd q.set 1)) ∧ W.cell? ⟨kb, ko + 1 + 1 + 1, none⟩ = some (.int .u64 (wd q.set 2)) ∧ W.cell? ⟨kb, ko + 1 + 1 + 1 + 1, none⟩ = some (.int .u64 (wd q.set 3)) ∧ W.cell? ⟨kb, ko + 1 + 1 + 1 + 1 + 1, none⟩ = some (.int .i64 q.lo) ∧ W.cell? ⟨kb, ko + 1 + 1 + 1 + 1 + 1 + 1, none⟩ = some (.int .i64 q.hi) ∧ W.cell? ⟨kb, ko + 1 + 1 + 1 + 1 + 1 + 1 + 1, none⟩ = some (.slice ka q.kids.length kc) ∧ Keep w2 W := by
  obtain ⟨f0, f1⟩ := frag_cells (hk.block N _ h.frag (else_frag _))
  obtain ⟨_, _, _, _, _, k5, k6, k7⟩ := node_cells (hk.block (N + 1) _ h.node (else_node _))
  have hv' := hk.block bv _ h.var (by simp [Else])
  obtain ⟨e0, e1, e2, e3, e4, e5, e6, e7⟩ := h.kid
  exact ⟨(cell_of_row _ _ 0 _ _ _ hv').trans rfl, f0, f1, k5, k6, k7, cell_below hb e0, cell_below hb e1, cell_below hb e2, cell_below hb e3, cell_below hb e4, cell_below hb e5, cell_below hb e6, cell_below hb e7, hk⟩
theorem rep_keep {w2 W : World} {bb bv N c d : Nat} {p q : Pat} {kb ko cap : Nat} {ka : Option Addr} {kc : Nat} (h : W.cell? ⟨bv, 0, none⟩ = some (ptr bb) ∧ W.cell? ⟨N, 0, none⟩ = some (.int .i64 c) ∧ W.cell? ⟨N, 1, none⟩ = some (.int .i64 d) ∧ W.cell? ⟨N + 1, 5, none⟩ = some (.int .i64 p.lo) ∧ W.cell? ⟨N + 1, 6, none⟩ = some (.int .i64 p.hi) ∧ W.cell? ⟨N + 1, 7, none⟩ = some (.slice (some ⟨kb, ko, none⟩) 1 cap) ∧ W.cell? ⟨kb, ko, none⟩ = some (.int .i64 q.op) ∧ W.cell? ⟨kb, ko + 1, none⟩ = some (.int .u64 (wd q.set 0)) ∧ W.cell? ⟨kb, ko + 1 + 1, none⟩ = some (.int .u64 (wd q.set 1)) ∧ W.cell? ⟨kb, ko + 1 + 1 + 1, none⟩ = some (.int .u64 (wd q.set 2)) ∧ W.cell? ⟨kb, ko + 1 + 1 + 1 + 1, none⟩ = some (.int .u64 (wd q.set 3)) ∧ W.cell? ⟨kb, ko + 1 + 1 + 1 + 1 + 1, none⟩ = some (.int .i64 q.lo) ∧ W.cell? ⟨kb, ko + 1 + 1 + 1 + 1 + 1 + 1, none⟩ = some (.int .i64 q.hi) ∧ W.cell? ⟨kb, ko + 1 + 1 + 1 + 1 + 1 + 1 + 1, none⟩ = some (.slice ka q.kids.length kc) ∧ Keep w2 W) : Keep w2 W := h.2.2.2.2.2.2.2.2.2.2.2.2.2.2
set_option maxHeartbeats 8000000 in
theorem repclo_any (w0 : World) (bb bv mb : Nat) (p : Pat) (m : Mach) (c d : Nat) (ks : Value) (w : World) (h : St w0 bb bv mb m w) (hk : Kids w0 p.kids ks) (H : KidsB w0 bb bv mb p) (hd : d = c + 1) (hdn : d < m.n) (he : m.e.length + 2 ≤ 2 * m.n) (ha : m.a.length ≤ m.n) (h3 : p.op = 3) (hn : m.n + copies p.op p.lo p.hi * cntL p.kids ≤ 20000) :
    Calls Tryd.prog 52 #[.agg #[.int .i64 c, .int .i64 d], (.agg #[.int .i64 p.op, .int .u64 (wd p.set 0), .int .u64 (wd p.set 1), .int .u64 (wd p.set 2), .int .u64 (wd p.set 3), .int .i64 p.lo, .int .i64 p.hi, ks]), ptr bv] w (Built w0 bb bv mb (.tuple #[]) (inner p c m) w) := by
  obtain ⟨q, hq⟩ := List.length_eq_one_iff.1 (good_one H.good h3)
  have hqm : q ∈ p.kids := by rw [hq]; simp
  have HCQ := Lib.hid (H.all q hqm)
  have HFQ := Lib.hid (H.frag hqm)
  have HNQ := Lib.hid (fun m => H.n hqm m)
  obtain ⟨g0, g1, g2, g3⟩ := good_num H.good
  have hk1 := hk
  rw [hq] at hk1
  obtain ⟨kb, ko, cap, e, hrow⟩ := hk1.row (by simp)
  rw [show ([q] : List Pat).length = 1 from rfl] at e
  subst e
  unfold RowAt at hrow
  obtain ⟨ks', hks, e0, e1, e2, e3, e4, e5, e6, e7⟩ := hrow.1.load
  obtain ⟨ka, kc, rfl⟩ := hks.len
  obtain ⟨N, hN⟩ : ∃ N, w.heap.size = N := ⟨_, rfl⟩
  obtain ⟨w2, hw2⟩ : ∃ w2, w2 = (w.alloc (.cells #[.int .i64 c, .int .i64 d] 62)).alloc (.cells #[.int .i64 p.op, .int .u64 (wd p.set 0), .int .u64 (wd p.set 1), .int .u64 (wd p.set 2), .int .u64 (wd p.set 3), .int .i64 p.lo, .int .i64 p.hi, .slice (some ⟨kb, ko, none⟩) 1 cap] 36) := ⟨_, rfl⟩
  have hb2 : Below w.heap.size w w2 := by rw [hw2]; exact below2 w _ _
  have hf : w2.heap[N]? = some (.cells #[.int .i64 c, .int .i64 d] 62 (0, 0)) := by rw [hw2, heap_alloc_old _ _ (by simp; omega), ← hN]; exact heap_alloc_new w _
  have hnode : w2.heap[N + 1]? = some (.cells #[.int .i64 p.op, .int .u64 (wd p.set 0), .int .u64 (wd p.set 1), .int .u64 (wd p.set 2), .int .u64 (wd p.set 3), .int .i64 p.lo, .int .i64 p.hi, .slice (some ⟨kb, ko, none⟩) 1 cap] 36 (0, 0)) := by
    have := heap_alloc_new (w.alloc (.cells #[.int .i64 c, .int .i64 d] 62)) (.cells #[.int .i64 p.op, .int .u64 (wd p.set 0), .int .u64 (wd p.set 1), .int .u64 (wd p.set 2), .int .u64 (wd p.set 3), .int .i64 p.lo, .int .i64 p.hi, .slice (some ⟨kb, ko, none⟩) 1 cap] 36)
    rw [World.size_alloc, hN] at this
    rw [hw2]; exact this
  have HS2 := Lib.hid (h.next hb2)
  have HK2 := Lib.hid (Keep.below hb2)
  have HW := Lib.hid hw2
  have HF := Lib.hid hf
  have HN := Lib.hid hnode
  have HH := Lib.hid H
  have HKD := Lib.hid hk
  obtain ⟨ve, va, hBS⟩ := h.next hb2
  have hvv := hBS.var
  obtain ⟨f0, f1⟩ := frag_cells hf
  obtain ⟨k0, k1, k2, k3, k4, k5, k6, k7⟩ := node_cells hnode
  have HD := Lib.hid hd
  clear hb2 hw2 hf hnode hBS hk H hd
  have HRW : Hid (RepW w0 w2 bb bv N c d p q kb ko cap ka kc) := Lib.hid ⟨hvv, HF.out, HN.out, e0, e1, e2, e3, e4, e5, e6, e7⟩
  have HKQ := Lib.hid hks
  obtain ⟨C, hC⟩ : ∃ C, copies p.op p.lo p.hi = C := ⟨_, rfl⟩
  obtain ⟨L, hL⟩ : ∃ L : Nat, p.lo.toNat = L := ⟨_, rfl⟩
  have hCL : L ≤ C ∧ (p.hi < 0 → C = L + 1) ∧ (0 ≤ p.hi → C = L + (p.hi - p.lo).toNat) := by
    rw [← hC, copies, if_pos h3]
    split <;> omega
  rw [hC, hq] at hn
  simp only [cntL, Nat.add_zero] at hn
  have HT : Hid (∀ k, k ≤ C → (timesB (bld q) k (m, c)).1.e.length + 2 ≤ 2 * (timesB (bld q) k (m, c)).1.n ∧ (timesB (bld q) k (m, c)).1.a.length ≤ (timesB (bld q) k (m, c)).1.n ∧ (timesB (bld q) k (m, c)).1.n = m.n + k * q.cnt ∧ (timesB (bld q) k (m, c)).1.n ≤ 20000 ∧ (timesB (bld q) k (m, c)).2 < (timesB (bld q) k (m, c)).1.n ∧ d < (timesB (bld q) k (m, c)).1.n) := Lib.hid fun k hk => by
    have hs := times_step HFQ.out k m c (by have := HD.out; omega)
    have hn2 := times_n HNQ.out k (m, c)
    have h1 := hs.1.e
    have h2 := hs.1.a
    have h4 := Nat.mul_le_mul_right q.cnt hk
    dsimp only at hn2
    exact ⟨by omega, by omega, hn2, by omega, hs.2, by have := hs.1.n; omega⟩
  have HSTEP : Hid (∀ k, k + 1 ≤ C → m.n + k * q.cnt + q.cnt ≤ 20000) := Lib.hid fun k hk => by
    have h4 := Nat.mul_le_mul_right q.cnt hk
    rw [Nat.add_mul] at h4
    omega
  have HIN : Hid ((p.hi < 0 → inner p c m = (loopB (bld q) d (timesB (bld q) L (m, c))).1.eps (timesB (bld q) L (m, c)).2 d) ∧ (0 ≤ p.hi → inner p c m = (optB (bld q) d (p.hi - p.lo).toNat (timesB (bld q) L (m, c))).1.eps (optB (bld q) d (p.hi - p.lo).toNat (timesB (bld q) L (m, c))).2 d)) := Lib.hid (by
    unfold inner
    rw [if_neg (by omega), if_neg (by omega), if_neg (by omega), if_pos h3, hq, head_fun, hL, HD.out]
    constructor
    · intro h; rw [if_pos h]; rfl
    · intro h; rw [if_neg (by omega)])
  have HLL := Lib.hid hL
  obtain ⟨c5, c6, c7⟩ : w2.cell? ⟨N + 1, 5, none⟩ = some (.int .i64 p.lo) ∧ w2.cell? ⟨N + 1, 6, none⟩ = some (.int .i64 p.hi) ∧ w2.cell? ⟨N + 1, 7, none⟩ = some (.slice (some ⟨kb, ko, none⟩) 1 cap) := ⟨k5, k6, k7⟩
  clear e0 e1 e2 e3 e4 e5 e6 e7 hrow hk1 hks k0 k1 k2 k3 k4 k5 k6 k7 hvv hC hL hqm h3 hq h
  go_enter Tryd.func52, Tryd.ntmps52
  go_upto_region 1 with fail
  rw [← HW.out]
  go_wp2
  clear f0 f1 c5 c6 c7
  go_loopw [5, 11] (fun v x wr => ∃ (k : Nat) (m' : Mach) (y : Nat), x = .int .i64 k ∧ k ≤ L ∧ v = .int .i64 y ∧ Hid ((m', y) = timesB (bld q) k (m, c)) ∧ Hid (St w0 bb bv mb m' wr) ∧ Hid (Keep w2 wr)) (fun _ x _ => L - (intOf x).toNat)
  case atStart => exact ⟨0, m, c, rfl, Nat.zero_le _, rfl, Lib.hid rfl, HS2, Lib.hid (Keep.refl _)⟩
  case round =>
    obtain ⟨k, m', y, rfl, hkl, rfl, HM, HS, HKP⟩ := hrel
    have hll := HLL.out
    have hin := HT.out k (by omega)
    rw [← HM.out] at hin
    dsimp only at hin
    obtain ⟨i1, i2, i3, i4, i5, i6⟩ := hin
    by_cases hlt : k < L
    · have hdd : decide ((k : Int) < p.lo) = true := by simp; omega
      have hstep := HSTEP.out k (by omega)
      have CB : Hid (∀ W, St w0 bb bv mb m' W → Calls Tryd.prog 49 #[ptr bb, .int .i64 y, (.agg #[.int .i64 q.op, .int .u64 (wd q.set 0), .int .u64 (wd q.set 1), .int .u64 (wd q.set 2), .int .u64 (wd q.set 3), .int .i64 q.lo, .int .i64 q.hi, .slice ka q.kids.length kc])] W fun e W' => ∃ z : Nat, e = .returned (.int .i64 z) ∧ Hid (z = m'.n + 1) ∧ St w0 bb bv mb (behind (bld q) (m', y)).1 W' ∧ Keep W W') := Lib.hid fun W hW => by
        refine (behind_any w0 bb bv mb q HFQ.out HCQ.out m' m'.n (m'.n + 1) y (.slice ka q.kids.length kc) W rfl rfl hW HKQ.out (by omega) i2 (by rw [HNQ.out]; omega)).mono ?_
        rintro e W' ⟨rfl, h1, h2⟩
        exact ⟨m'.n + 1, rfl, rfl, h1.out, h2.out⟩
      have hstd := HS.out.drew
      have hkd := HKP.out.trans (keep_drew wr)
      have hkb : k < 1000 := by omega
      clear hll
      go_wp2
      go_region_held3 (fun W => W.cell? ⟨bv, 0, none⟩ = some (ptr bb) ∧ W.cell? ⟨N, 0, none⟩ = some (.int .i64 c) ∧ W.cell? ⟨N, 1, none⟩ = some (.int .i64 d) ∧ W.cell? ⟨N + 1, 5, none⟩ = some (.int .i64 p.lo) ∧ W.cell? ⟨N + 1, 6, none⟩ = some (.int .i64 p.hi) ∧ W.cell? ⟨N + 1, 7, none⟩ = some (.slice (some ⟨kb, ko, none⟩) 1 cap) ∧ W.cell? ⟨kb, ko, none⟩ = some (.int .i64 q.op) ∧ W.cell? ⟨kb, ko + 1, none⟩ = some (.int .u64 (wd q.set 0)) ∧ W.cell? ⟨kb, ko + 1 + 1, none⟩ = some (.int .u64 (wd q.set 1)) ∧ W.cell? ⟨kb, ko + 1 + 1 + 1, none⟩ = some (.int .u64 (wd q.set 2)) ∧ W.cell? ⟨kb, ko + 1 + 1 + 1 + 1, none⟩ = some (.int .u64 (wd q.set 3)) ∧ W.cell? ⟨kb, ko + 1 + 1 + 1 + 1 + 1, none⟩ = some (.int .i64 q.lo) ∧ W.cell? ⟨kb, ko + 1 + 1 + 1 + 1 + 1 + 1, none⟩ = some (.int .i64 q.hi) ∧ W.cell? ⟨kb, ko + 1 + 1 + 1 + 1 + 1 + 1 + 1, none⟩ = some (.slice ka q.kids.length kc) ∧ Keep w2 W)
        (first | (with_reducible exact rep_hold HRW.out (Keep.trans (rep_keep (by assumption)) (by assumption)) (St.below (by assumption))) | (with_reducible exact rep_hold HRW.out hkd hstd.below))
        (first | (go_at_call 49; (with_reducible refine (CB.out _ (by assumption)).mono ?_); rintro e w6 ⟨z, rfl, HZ, hst6, hk6⟩))
      have HFIN := Lib.hid (Keep.trans hkd hk6)
      have HST6 := Lib.hid hst6
      clear hk6 hst6 hstd hkd
      go_wp2
      go_roundw
      case rel => exact ⟨k + 1, (behind (bld q) (m', y)).1, z, num_succ k, by omega, rfl, Lib.hid (by rw [times_snoc, ← HM.out, HZ.out]; rfl), HST6, HFIN⟩
      case measure => simp [intOf]; omega
    · obtain rfl : k = L := by omega
      have hdd : decide ((k : Int) < p.lo) = false := by simp; omega
      clear hll
      obtain ⟨_, f0, f1, c5, c6, c7, _⟩ := rep_hold HRW.out HKP.out HS.out.below
      have hel1 : m'.e.length < 100000 := by omega
      by_cases hneg : p.hi < 0
      · have hd2 : decide (p.hi < 0) = true := by simpa using hneg
        have hd3 : decide (p.lo < p.hi) = false := by simp; omega
        have hstep := HSTEP.out k (by have := hCL.2.1 hneg; omega)
        have CL : Hid (∀ W, St w0 bb bv mb m' W → Calls Tryd.prog 53 #[ptr bb, .int .i64 y, (.agg #[.int .i64 q.op, .int .u64 (wd q.set 0), .int .u64 (wd q.set 1), .int .u64 (wd q.set 2), .int .u64 (wd q.set 3), .int .i64 q.lo, .int .i64 q.hi, .slice ka q.kids.length kc]), .int .i64 d] W fun e W' => e = .returned (.tuple #[]) ∧ St w0 bb bv mb (loopB (bld q) d (m', y)).1 W' ∧ Keep W W') := Lib.hid fun W hW => by
          refine (loop_any w0 bb bv mb q HFQ.out HCQ.out m' m'.n (m'.n + 1) y d (.slice ka q.kids.length kc) W rfl rfl hW HKQ.out (by omega) i2 (by rw [HNQ.out]; omega)).mono ?_
          rintro e W' ⟨rfl, h1, h2⟩
          exact ⟨rfl, h1.out, h2.out⟩
        have hel2 : (loopB (bld q) d (m', y)).1.e.length < 100000 := by
          have h5 := (loop_step HFQ.out i5 i6).1.e
          have h6 : (loopB (bld q) d (m', y)).1.n = (bld q m').n := rfl
          rw [h6, HNQ.out] at h5
          omega
        have hstd := HS.out.drew
        have hkd := HKP.out.trans (keep_drew wr)
        go_upto_region 7 with fail
        go_region_held3 (fun W => W.cell? ⟨bv, 0, none⟩ = some (ptr bb) ∧ W.cell? ⟨N, 0, none⟩ = some (.int .i64 c) ∧ W.cell? ⟨N, 1, none⟩ = some (.int .i64 d) ∧ W.cell? ⟨N + 1, 5, none⟩ = some (.int .i64 p.lo) ∧ W.cell? ⟨N + 1, 6, none⟩ = some (.int .i64 p.hi) ∧ W.cell? ⟨N + 1, 7, none⟩ = some (.slice (some ⟨kb, ko, none⟩) 1 cap) ∧ W.cell? ⟨kb, ko, none⟩ = some (.int .i64 q.op) ∧ W.cell? ⟨kb, ko + 1, none⟩ = some (.int .u64 (wd q.set 0)) ∧ W.cell? ⟨kb, ko + 1 + 1, none⟩ = some (.int .u64 (wd q.set 1)) ∧ W.cell? ⟨kb, ko + 1 + 1 + 1, none⟩ = some (.int .u64 (wd q.set 2)) ∧ W.cell? ⟨kb, ko + 1 + 1 + 1 + 1, none⟩ = some (.int .u64 (wd q.set 3)) ∧ W.cell? ⟨kb, ko + 1 + 1 + 1 + 1 + 1, none⟩ = some (.int .i64 q.lo) ∧ W.cell? ⟨kb, ko + 1 + 1 + 1 + 1 + 1 + 1, none⟩ = some (.int .i64 q.hi) ∧ W.cell? ⟨kb, ko + 1 + 1 + 1 + 1 + 1 + 1 + 1, none⟩ = some (.slice ka q.kids.length kc) ∧ Keep w2 W)
          (first | (with_reducible exact rep_hold HRW.out (Keep.trans (rep_keep (by assumption)) (by assumption)) (St.below (by assumption))) | (with_reducible exact rep_hold HRW.out hkd hstd.below))
          (first | (go_at_call 53; (with_reducible refine (CL.out _ (by assumption)).mono ?_); rintro e w6 ⟨rfl, hst6, hk6⟩))
        have HKF := Lib.hid (Keep.trans hkd hk6)
        have HST6 := Lib.hid hst6
        clear hk6 hst6 hstd hkd f0 f1 c5 c6 c7
        obtain ⟨cv, f0, f1, c5, c6, c7, _⟩ := rep_hold HRW.out HKF.out HST6.out.below
        have HE := Lib.hid (eps_any w0 bb bv mb _ y d w6 HST6.out hel2)
        go_wp2
        refine wp_loop_rounds 1 ?_
        rw [rounds_succ]
        go_wp2_with (go_at_call 50; refine HE.out.mono ?_; rintro e w7 ⟨rfl, HS7, HK7⟩)
        go_end0
        refine ⟨rfl, ?_, Lib.hid ((HK2.out.trans HKF.out).trans HK7.out)⟩
        rw [HIN.out.1 hneg, ← HM.out]; exact HS7
      · have hd2 : decide (p.hi < 0) = false := by simpa using hneg
        obtain ⟨J, hJ⟩ : ∃ J, (p.hi - p.lo).toNat = J := ⟨_, rfl⟩
        have HJ := Lib.hid hJ
        have hCJ := hCL.2.2 (by omega)
        have HO : Hid (∀ j, j ≤ J → (optB (bld q) d j (m', y)).1.e.length + 2 ≤ 2 * (optB (bld q) d j (m', y)).1.n ∧ (optB (bld q) d j (m', y)).1.a.length ≤ (optB (bld q) d j (m', y)).1.n ∧ (optB (bld q) d j (m', y)).1.n = m'.n + j * q.cnt ∧ (optB (bld q) d j (m', y)).2 < (optB (bld q) d j (m', y)).1.n ∧ d < (optB (bld q) d j (m', y)).1.n ∧ (j < J → m'.n + j * q.cnt + q.cnt ≤ 20000) ∧ m'.n + j * q.cnt ≤ 20000) := Lib.hid fun j hj => by
          have hs := opt_step HFQ.out (e := d) j m' y i5 i6
          have hn2 := opt_n (e := d) HNQ.out j (m', y)
          have h1 := hs.1.e
          have h2 := hs.1.a
          have h7 : k + j ≤ C := by omega
          have h4 := Nat.mul_le_mul_right q.cnt h7
          rw [Nat.add_mul] at h4
          dsimp only at hn2
          refine ⟨by omega, by omega, hn2, hs.2, by have := hs.1.n; omega, fun hlt => ?_, by omega⟩
          have h8 : k + j + 1 ≤ C := by omega
          have h9 := Nat.mul_le_mul_right q.cnt h8
          rw [Nat.add_mul, Nat.add_mul] at h9
          omega
        have HINB := Lib.hid (HIN.out.2 (by omega))
        rw [hJ, ← HM.out] at HINB
        have hJB : J ≤ 32 := by omega
        go_wp2
        clear f0 f1 c5 c6 c7
        go_loopw [5, 6] (fun v x wr2 => ∃ (j : Nat) (m2 : Mach) (y2 : Nat), x = .int .i64 (p.lo + j) ∧ j ≤ J ∧ v = .int .i64 y2 ∧ Hid ((m2, y2) = optB (bld q) d j (m', y)) ∧ Hid (St w0 bb bv mb m2 wr2) ∧ Hid (Keep w2 wr2)) (fun _ x _ => J - (intOf x - p.lo).toNat)
        case atStart => exact ⟨0, m', y, by simp, Nat.zero_le _, rfl, Lib.hid rfl, HS, HKP⟩
        case round =>
          clear HKP HS
          obtain ⟨j, m2, y2, rfl, hjl, rfl, HM2, HS, HKP⟩ := hrel
          have hin := HO.out j hjl
          rw [← HM2.out] at hin
          dsimp only at hin
          obtain ⟨j1, j2, j3, j4, j5, j6, j7⟩ := hin
          obtain ⟨cv, f0, f1, c5, c6, c7, _⟩ := rep_hold HRW.out HKP.out HS.out.below
          by_cases hlt : j < J
          · have hdd2 : decide (p.lo + (j : Int) < p.hi) = true := by simp; have := HJ.out; omega
            have hstep := j6 hlt
            have HE := Lib.hid (eps_any w0 bb bv mb m2 y2 d _ HS.out (by omega))
            go_upto_region 12 with (go_at_call 50; refine HE.out.mono ?_; rintro e w5 ⟨rfl, HS5, HK5⟩)
            have CB : Hid (∀ W, St w0 bb bv mb (m2.eps y2 d) W → Calls Tryd.prog 49 #[ptr bb, .int .i64 y2, (.agg #[.int .i64 q.op, .int .u64 (wd q.set 0), .int .u64 (wd q.set 1), .int .u64 (wd q.set 2), .int .u64 (wd q.set 3), .int .i64 q.lo, .int .i64 q.hi, .slice ka q.kids.length kc])] W fun e W' => ∃ z : Nat, e = .returned (.int .i64 z) ∧ Hid (z = m2.n + 1) ∧ St w0 bb bv mb (behind (bld q) (m2.eps y2 d, y2)).1 W' ∧ Keep W W') := Lib.hid fun W hW => by
              refine (behind_any w0 bb bv mb q HFQ.out HCQ.out (m2.eps y2 d) m2.n (m2.n + 1) y2 (.slice ka q.kids.length kc) W rfl rfl hW HKQ.out (by simp only [Mach.eps, List.length_append, List.length_singleton]; omega) j2 (by rw [HNQ.out]; simp only [Mach.eps]; omega)).mono ?_
              rintro e W' ⟨rfl, h1, h2⟩
              exact ⟨m2.n + 1, rfl, rfl, h1.out, h2.out⟩
            have hstd := HS5.out.drew
            have hkd := (HKP.out.trans HK5.out).trans (keep_drew w5)
            go_region_held3 (fun W => W.cell? ⟨bv, 0, none⟩ = some (ptr bb) ∧ W.cell? ⟨N, 0, none⟩ = some (.int .i64 c) ∧ W.cell? ⟨N, 1, none⟩ = some (.int .i64 d) ∧ W.cell? ⟨N + 1, 5, none⟩ = some (.int .i64 p.lo) ∧ W.cell? ⟨N + 1, 6, none⟩ = some (.int .i64 p.hi) ∧ W.cell? ⟨N + 1, 7, none⟩ = some (.slice (some ⟨kb, ko, none⟩) 1 cap) ∧ W.cell? ⟨kb, ko, none⟩ = some (.int .i64 q.op) ∧ W.cell? ⟨kb, ko + 1, none⟩ = some (.int .u64 (wd q.set 0)) ∧ W.cell? ⟨kb, ko + 1 + 1, none⟩ = some (.int .u64 (wd q.set 1)) ∧ W.cell? ⟨kb, ko + 1 + 1 + 1, none⟩ = some (.int .u64 (wd q.set 2)) ∧ W.cell? ⟨kb, ko + 1 + 1 + 1 + 1, none⟩ = some (.int .u64 (wd q.set 3)) ∧ W.cell? ⟨kb, ko + 1 + 1 + 1 + 1 + 1, none⟩ = some (.int .i64 q.lo) ∧ W.cell? ⟨kb, ko + 1 + 1 + 1 + 1 + 1 + 1, none⟩ = some (.int .i64 q.hi) ∧ W.cell? ⟨kb, ko + 1 + 1 + 1 + 1 + 1 + 1 + 1, none⟩ = some (.slice ka q.kids.length kc) ∧ Keep w2 W)
              (first | (with_reducible exact rep_hold HRW.out (Keep.trans (rep_keep (by assumption)) (by assumption)) (St.below (by assumption))) | (with_reducible exact rep_hold HRW.out hkd hstd.below))
              (first | (go_at_call 49; (with_reducible refine (CB.out _ (by assumption)).mono ?_); rintro e w6 ⟨z, rfl, HZ, hst6, hk6⟩))
            have HFIN := Lib.hid (Keep.trans hkd hk6)
            have HST6 := Lib.hid hst6
            have hlb : p.lo ≤ 32 := g1
            clear hk6 hst6 hstd hkd
            go_wp2
            go_roundw
            case rel => exact ⟨j + 1, (behind (bld q) (m2.eps y2 d, y2)).1, z, by simp; omega, by omega, rfl, Lib.hid (by rw [opt_snoc, ← HM2.out, HZ.out]; rfl), HST6, HFIN⟩
            case measure => simp [intOf]; omega
          · obtain rfl : j = J := by omega
            have hdd2 : decide (p.lo + (j : Int) < p.hi) = false := by simp; have := HJ.out; omega
            have HE := Lib.hid (eps_any w0 bb bv mb m2 y2 d _ HS.out (by omega))
            go_wp2_with (go_at_call 50; refine HE.out.mono ?_; rintro e w5 ⟨rfl, HS5, HK5⟩)
            go_end0
            refine ⟨rfl, ?_, Lib.hid ((HK2.out.trans HKP.out).trans HK5.out)⟩
            rw [HINB.out, ← HM2.out]; exact HS5
end Go.Proofs.YtpfhhdiipedklaaDoor
