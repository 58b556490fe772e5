/- Texts that a proof rests on: The reference's from: what a set lets through. -/
import Derived.Test.YtpfhhdiipedklaaDoorK34
import Derived.Test.YtpfhhdiipedklaaDoorK12
set_option maxRecDepth 100000
namespace Go.Proofs.YtpfhhdiipedklaaDoor
open Go.RowKit

/-- Has a set a text's byte at a place? -/
def hasAt (s : ByteArray) (c : BitVec 256) (k : Nat) : Bool := if h : k < s.size then c.getLsbD s[k].toNat else false
/-- One place on, where a set has the byte. -/
def shOne (s : ByteArray) (c : BitVec 256) (f : Nat → Bool) (i : Nat) : Bool := decide (0 < i) && (f (i - 1) && hasAt s c (i - 1))
def shUpto (s : ByteArray) (c : BitVec 256) (f : Nat → Bool) (k i : Nat) : Bool := decide (i ≤ k) && shOne s c f i
theorem shift_start (s : ByteArray) (c : BitVec 256) (f : Nat → Bool) : shUpto s c f 0 = fun _ => false := by
  funext i
  unfold shUpto shOne
  by_cases h : i ≤ 0
  · have : ¬ 0 < i := by omega
    simp [this]
  · simp [h]
theorem shift_at (s : ByteArray) (c : BitVec 256) (f : Nat → Bool) (k : Nat) : shUpto s c f (k + 1) (k + 1) = (f k && hasAt s c k) := by simp [shUpto, shOne]
theorem shift_other {s : ByteArray} {c : BitVec 256} {f : Nat → Bool} {k i : Nat} (h : i ≠ k + 1) : shUpto s c f k i = shUpto s c f (k + 1) i := by
  unfold shUpto
  have : i ≤ k ↔ i ≤ k + 1 := by omega
  simp only [this]
theorem shift_go {s : ByteArray} {p : Pat} (hop : p.op = 0) (f : Nat → Bool) : Go s.size (p.M s) f (shUpto s p.set f s.size) := by
  intro x hx
  unfold shUpto shOne
  simp only [hx, decide_true, Bool.true_and, Bool.and_eq_true, decide_eq_true_eq]
  constructor
  · rintro ⟨h0, h1, h2⟩
    refine ⟨x - 1, by omega, h1, (M_set hop _ _).2 ⟨by omega, by omega, ?_⟩⟩
    unfold hasAt at h2
    split at h2
    · rename_i h3
      exact ⟨by simpa using h3, by simpa using h2⟩
    · cases h2
  · rintro ⟨y, hy, h1, h2⟩
    obtain ⟨h3, h4, h5, h6⟩ := (M_set hop _ _).1 h2
    obtain rfl : x = y + 1 := by omega
    refine ⟨by omega, by simpa using h1, ?_⟩
    unfold hasAt
    simp only [Int.toNat_natCast, Nat.add_sub_cancel] at h5 h6 ⊢
    rw [dif_pos h5]; exact h6
theorem set_keep {W W' : World} {N b k : Nat} {x1 x2 x3 x4 y z : Value} (h : W.cell? ⟨N, 1, none⟩ = some x1 ∧ W.cell? ⟨N, 2, none⟩ = some x2 ∧ W.cell? ⟨N, 3, none⟩ = some x3 ∧ W.cell? ⟨N, 4, none⟩ = some x4 ∧ W.cell? ⟨b, k, none⟩ = some y ∧ W.cell? ⟨N + 1, k + 1, none⟩ = some z) (hb : Below W.heap.size W W') :
    W'.cell? ⟨N, 1, none⟩ = some x1 ∧ W'.cell? ⟨N, 2, none⟩ = some x2 ∧ W'.cell? ⟨N, 3, none⟩ = some x3 ∧ W'.cell? ⟨N, 4, none⟩ = some x4 ∧ W'.cell? ⟨b, k, none⟩ = some y ∧ W'.cell? ⟨N + 1, k + 1, none⟩ = some z := by
  obtain ⟨h1, h2, h3, h4, h5, h6⟩ := h
  exact ⟨cell_below hb h1, cell_below hb h2, cell_below hb h3, cell_below hb h4, cell_below hb h5, cell_below hb h6⟩
set_option linter.unusedSimpArgs false in
set_option maxHeartbeats 4000000 in
theorem from_set (s : ByteArray) (n : Nat) (p : Pat) (hop : p.op = 0) (hn : s.size + 1 = n) (hsz : s.size ≤ 90) : FromC s n p := by
  intro ks w b f hk hb
  obtain ⟨a, cap, rfl⟩ := hk.len
  obtain ⟨N, hN⟩ : ∃ N, w.heap.size = N := ⟨_, rfl⟩
  have hmk := make_bools (c := (s.size : Int) + 1) (n := n) (by omega) (by omega)
  have HK := Lib.hid (show ∀ wr, Below N w wr → Kids wr p.kids (.slice a p.kids.length cap) from fun wr hbr => hk.below (by rw [hN]; exact hbr))
  have HB := Lib.hid (show ∀ wr, Below N w wr → Blk wr b n f from fun wr hbr => hb.old hbr (by have := hb.lt; omega))
  have hs2 : ((w.alloc (.cells #[.int .i64 p.op, .int .u64 (wd p.set 0), .int .u64 (wd p.set 1), .int .u64 (wd p.set 2), .int .u64 (wd p.set 3), .int .i64 p.lo, .int .i64 p.hi, .slice a p.kids.length cap] 36)).alloc (.cells (Places n fun _ => false) 4)).heap.size = N + 2 := by simp [hN]
  have hb2 : Below N w ((w.alloc (.cells #[.int .i64 p.op, .int .u64 (wd p.set 0), .int .u64 (wd p.set 1), .int .u64 (wd p.set 2), .int .u64 (wd p.set 3), .int .i64 p.lo, .int .i64 p.hi, .slice a p.kids.length cap] 36)).alloc (.cells (Places n fun _ => false) 4)) := by rw [← hN]; exact below2 w _ _
  have hx2 : ((w.alloc (.cells #[.int .i64 p.op, .int .u64 (wd p.set 0), .int .u64 (wd p.set 1), .int .u64 (wd p.set 2), .int .u64 (wd p.set 3), .int .i64 p.lo, .int .i64 p.hi, .slice a p.kids.length cap] 36)).alloc (.cells (Places n fun _ => false) 4)).heap[N]? = some (.cells #[.int .i64 p.op, .int .u64 (wd p.set 0), .int .u64 (wd p.set 1), .int .u64 (wd p.set 2), .int .u64 (wd p.set 3), .int .i64 p.lo, .int .i64 p.hi, .slice a p.kids.length cap] 36 (0, 0)) := by
    rw [heap_alloc_old _ _ (by simp; omega), ← hN]; exact heap_alloc_new w _
  have hr2 : Blk ((w.alloc (.cells #[.int .i64 p.op, .int .u64 (wd p.set 0), .int .u64 (wd p.set 1), .int .u64 (wd p.set 2), .int .u64 (wd p.set 3), .int .i64 p.lo, .int .i64 p.hi, .slice a p.kids.length cap] 36)).alloc (.cells (Places n fun _ => false) 4)) (N + 1) n (fun _ => false) := by
    have := Blk.new (w.alloc (.cells #[.int .i64 p.op, .int .u64 (wd p.set 0), .int .u64 (wd p.set 1), .int .u64 (wd p.set 2), .int .u64 (wd p.set 3), .int .i64 p.lo, .int .i64 p.hi, .slice a p.kids.length cap] 36)) n (fun _ => false)
    rw [World.size_alloc, hN] at this
    exact this
  have HOP := Lib.hid hop
  have HGO := Lib.hid (shift_go (s := s) hop f)
  clear hop
  have d0 : (p.op == 0) = true := by simp [HOP.out]
  clear hk hb
  rw [hN]
  go_enter Tryd.func62, Tryd.ntmps62
  go_upto_region 2 with fail
  generalize hw2 : (w.alloc (.cells #[.int .i64 p.op, .int .u64 (wd p.set 0), .int .u64 (wd p.set 1), .int .u64 (wd p.set 2), .int .u64 (wd p.set 3), .int .i64 p.lo, .int .i64 p.hi, .slice a p.kids.length cap] 36)).alloc (.cells (Places n fun _ => false) 4) = w2 at *
  clear hw2 hmk
  obtain ⟨c0, c1, c2, c3, c4, c5, c6, c7⟩ := box8 hx2
  have HB2 := Lib.hid hb2
  have HX2 := Lib.hid hx2
  have HR2 := Lib.hid hr2
  have HS2 := Lib.hid hs2
  clear hb2 hx2 hr2
  have mixed : Tryd.prog.follows .mixedOrders = true := by kernel_rfl
  go_wp2
  go_loopw [8] (fun x wr => ∃ k : Nat, x = .int .i64 k ∧ k ≤ s.size ∧ Hid (Blk wr (N + 1) n (shUpto s p.set f k)) ∧ Hid (wr.heap[N]? = some (.cells #[.int .i64 p.op, .int .u64 (wd p.set 0), .int .u64 (wd p.set 1), .int .u64 (wd p.set 2), .int .u64 (wd p.set 3), .int .i64 p.lo, .int .i64 p.hi, .slice a p.kids.length cap] 36 (0, 0))) ∧ Hid (Below N w wr)) (fun x _ => s.size - (intOf x).toNat)
  case atStart => exact ⟨0, rfl, Nat.zero_le _, Lib.hid (by rw [shift_start]; exact HR2.out), HX2, HB2⟩
  case round =>
    clear c0 c1 c2 c3 c4 c5 c6 c7 HR2 HX2 HB2
    obtain ⟨k, rfl, hk, HO, HX, HBW⟩ := hrel
    by_cases hlt : k < s.size
    · have hd : decide ((k : Int) < s.size) = true := by simpa using hlt
      obtain ⟨c0, c1, c2, c3, c4, c5, c6, c7⟩ := box8 HX.out
      have cl := (HB.out wr HBW.out).cell (i := k) (by omega)
      have co := HO.out.cell (i := k + 1) (by omega)
      have HV : Hid (∀ v w5, (f k && hasAt s p.set k) = v → Below wr.heap.size wr w5 → Blk (w5.setCell ⟨N + 1, k + 1, none⟩ (.bool v)) (N + 1) n (shUpto s p.set f (k + 1)) ∧ (w5.setCell ⟨N + 1, k + 1, none⟩ (.bool v)).heap[N]? = some (.cells #[.int .i64 p.op, .int .u64 (wd p.set 0), .int .u64 (wd p.set 1), .int .u64 (wd p.set 2), .int .u64 (wd p.set 3), .int .i64 p.lo, .int .i64 p.hi, .slice a p.kids.length cap] 36 (0, 0)) ∧ Below N w (w5.setCell ⟨N + 1, k + 1, none⟩ (.bool v)) ∧ w5.cell? ⟨N + 1, k + 1, none⟩ = some (.bool (shUpto s p.set f k (k + 1))) ∧ w5.frozen? ⟨N + 1, k + 1, none⟩ = false) := Lib.hid fun v w5 hv h5 => by
        have ho5 := HO.out.below h5
        have hlt5 := lt_of_block HX.out
        refine ⟨ho5.set ((shift_at _ _ _ _).trans hv) fun i _ hne => shift_other hne, ?_, ?_, ho5.cell (by omega), ho5.frozen⟩
        · rw [Below.heap_setCell _ _ _ _ (by show N ≠ N + 1; omega)]
          exact (h5.block N hlt5).trans HX.out
        · exact (HBW.out.trans (h5.mono (by omega))).setCell (p := ⟨N + 1, k + 1, none⟩) (by show N ≤ N + 1; omega) _
      have HHAS : Hid (hasAt s p.set k = p.set.getLsbD s[k].toNat) := Lib.hid (by unfold hasAt; rw [dif_pos hlt])
      have hkn : k < n := by omega
      have hz1 : (0 : Int) ≤ (k : Int) + 1 := by omega
      have hz2 : (k : Int) + 1 < n := by omega
      have hwr : IntKind.i64.wrap ((k : Int) + 1) = ((k + 1 : Nat) : Int) := by rw [IntKind.wrap_i64]; omega
      have hkn1 : k + 1 < n := by omega
      have hby : s[k].toNat < 256 := UInt8.toNat_lt _
      generalize shUpto s p.set f k (k + 1) = z at *
      generalize hfk : f k = y at *
      clear hfk c0 c5 c6 c7
      have e1 : wr.drew.cell? ⟨N, 1, none⟩ = some (.int .u64 (wd p.set 0)) := c1
      have e2 : wr.drew.cell? ⟨N, 2, none⟩ = some (.int .u64 (wd p.set 1)) := c2
      have e3 : wr.drew.cell? ⟨N, 3, none⟩ = some (.int .u64 (wd p.set 2)) := c3
      have e4 : wr.drew.cell? ⟨N, 4, none⟩ = some (.int .u64 (wd p.set 3)) := c4
      have e5 : wr.drew.cell? ⟨b, k, none⟩ = some (.bool y) := cl
      have e6 : wr.drew.cell? ⟨N + 1, k + 1, none⟩ = some (.bool z) := co
      go_wp2
      cases y
      · refine region_goes 16 17 rfl (fun W => W.cell? ⟨N, 1, none⟩ = some (.int .u64 (wd p.set 0)) ∧ W.cell? ⟨N, 2, none⟩ = some (.int .u64 (wd p.set 1)) ∧ W.cell? ⟨N, 3, none⟩ = some (.int .u64 (wd p.set 2)) ∧ W.cell? ⟨N, 4, none⟩ = some (.int .u64 (wd p.set 3)) ∧ W.cell? ⟨b, k, none⟩ = some (.bool false) ∧ W.cell? ⟨N + 1, k + 1, none⟩ = some (.bool z)) mixed ⟨e1, e2, e3, e4, e5, e6⟩ (fun hHeld => ?_)
        refine goes_take (i := 0) (v := ?gv1) rfl (by kernel_rfl) (by kernel_rfl) (by kernel_rfl) (by kernel_rfl) (fun _ _ _ h => h) (Or.inl ⟨by rfl, ?gy1⟩) (by assumption) ?gr1
        case gy1 => (intro W9 hW9; obtain ⟨k1, k2, k3, k4, k5, k6⟩ := hW9; first | (go_simp; done) | (go_simp; with_reducible rfl))
        simp only [Act.put, List.getElem_toArray, List.getElem_cons_succ, List.getElem_cons_zero, List.setIfInBounds_toArray, List.set_cons_zero, List.set_cons_succ]
        refine goes_take (i := 1) (v := ?gv2) rfl (by kernel_rfl) (by kernel_rfl) (by kernel_rfl) (by kernel_rfl) (fun _ _ _ h => h) (Or.inl ⟨by rfl, ?gy2⟩) (by assumption) ?gr2
        case gy2 => (intro W9 hW9; obtain ⟨k1, k2, k3, k4, k5, k6⟩ := hW9; first | (go_simp; done) | (go_simp; with_reducible rfl))
        simp only [Act.put, List.getElem_toArray, List.getElem_cons_succ, List.getElem_cons_zero, List.setIfInBounds_toArray, List.set_cons_zero, List.set_cons_succ]
        refine goes_take (i := 2) (v := .int .i64 ((k + 1 : Nat) : Int)) rfl (by kernel_rfl) (by kernel_rfl) (by kernel_rfl) (by kernel_rfl) (fun _ _ _ h => h) (Or.inl ⟨by rfl, ?gy3⟩) (by assumption) ?gr3
        case gy3 => (intro W9 hW9; obtain ⟨k1, k2, k3, k4, k5, k6⟩ := hW9; first | (go_simp; done) | (go_simp; with_reducible rfl))
        simp only [Act.put, List.getElem_toArray, List.getElem_cons_succ, List.getElem_cons_zero, List.setIfInBounds_toArray, List.set_cons_zero, List.set_cons_succ]
        refine goes_take (i := 3) (v := ?gv4) rfl (by kernel_rfl) (by kernel_rfl) (by kernel_rfl) (by kernel_rfl) (fun _ _ _ h => h) (Or.inl ⟨by rfl, ?gy4⟩) (by assumption) ?gr4
        case gy4 => (intro W9 hW9; obtain ⟨k1, k2, k3, k4, k5, k6⟩ := hW9; first | (go_simp; done) | (go_simp; with_reducible rfl))
        simp only [Act.put, List.getElem_toArray, List.getElem_cons_succ, List.getElem_cons_zero, List.setIfInBounds_toArray, List.set_cons_zero, List.set_cons_succ]
        refine goes_take (i := 4) (v := ?gv5) rfl (by kernel_rfl) (by kernel_rfl) (by kernel_rfl) (by kernel_rfl) (fun _ _ _ h => h) (Or.inl ⟨by rfl, ?gy5⟩) (by assumption) ?gr5
        case gy5 => (intro W9 hW9; obtain ⟨k1, k2, k3, k4, k5, k6⟩ := hW9; first | (go_simp; done) | (go_simp; with_reducible rfl))
        simp only [Act.put, List.getElem_toArray, List.getElem_cons_succ, List.getElem_cons_zero, List.setIfInBounds_toArray, List.set_cons_zero, List.set_cons_succ]
        refine goes_take (i := 5) (v := ?gv6) rfl (by kernel_rfl) (by kernel_rfl) (by kernel_rfl) (by kernel_rfl) (fun _ _ _ h => h) (Or.inl ⟨by rfl, ?gy6⟩) (by assumption) ?gr6
        case gy6 => (intro W9 hW9; obtain ⟨k1, k2, k3, k4, k5, k6⟩ := hW9; first | (go_simp; done) | (go_simp; with_reducible rfl))
        simp only [Act.put, List.getElem_toArray, List.getElem_cons_succ, List.getElem_cons_zero, List.setIfInBounds_toArray, List.set_cons_zero, List.set_cons_succ]
        refine goes_take (i := 6) (v := ?gv7) rfl (by kernel_rfl) (by kernel_rfl) (by kernel_rfl) (by kernel_rfl) (fun _ _ _ h => h) (Or.inl ⟨by rfl, ?gy7⟩) (by assumption) ?gr7
        case gy7 => (intro W9 hW9; obtain ⟨k1, k2, k3, k4, k5, k6⟩ := hW9; first | (go_simp; done) | (go_simp; with_reducible rfl))
        simp only [Act.put, List.getElem_toArray, List.getElem_cons_succ, List.getElem_cons_zero, List.setIfInBounds_toArray, List.set_cons_zero, List.set_cons_succ]
        refine goes_take (i := 7) (v := ?gv8) rfl (by kernel_rfl) (by kernel_rfl) (by kernel_rfl) (by kernel_rfl) (fun _ _ _ h => h) (Or.inl ⟨by rfl, ?gy8⟩) (by assumption) ?gr8
        case gy8 => (intro W9 hW9; obtain ⟨k1, k2, k3, k4, k5, k6⟩ := hW9; first | (go_simp; done) | (go_simp; with_reducible rfl))
        simp only [Act.put, List.getElem_toArray, List.getElem_cons_succ, List.getElem_cons_zero, List.setIfInBounds_toArray, List.set_cons_zero, List.set_cons_succ]
        refine goes_take (i := 8) (v := undef) rfl (by kernel_rfl) (by kernel_rfl) (by kernel_rfl) (by kernel_rfl) (fun _ _ _ h => h) (Or.inr ⟨by rfl, rfl⟩) (by assumption) ?_
        simp only [Act.put, List.getElem_toArray, List.getElem_cons_succ, List.getElem_cons_zero, List.setIfInBounds_toArray, List.set_cons_zero, List.set_cons_succ]
        refine goes_take (i := 9) (v := undef) rfl (by kernel_rfl) (by kernel_rfl) (by kernel_rfl) (by kernel_rfl) (fun _ _ _ h => h) (Or.inr ⟨by rfl, rfl⟩) (by assumption) ?_
        simp only [Act.put, List.getElem_toArray, List.getElem_cons_succ, List.getElem_cons_zero, List.setIfInBounds_toArray, List.set_cons_zero, List.set_cons_succ]
        refine goes_take (i := 10) (v := undef) rfl (by kernel_rfl) (by kernel_rfl) (by kernel_rfl) (by kernel_rfl) (fun _ _ _ h => h) (Or.inr ⟨by rfl, rfl⟩) (by assumption) ?_
        simp only [Act.put, List.getElem_toArray, List.getElem_cons_succ, List.getElem_cons_zero, List.setIfInBounds_toArray, List.set_cons_zero, List.set_cons_succ]
        refine goes_take (i := 11) (v := undef) rfl (by kernel_rfl) (by kernel_rfl) (by kernel_rfl) (by kernel_rfl) (fun _ _ _ h => h) (Or.inr ⟨by rfl, rfl⟩) (by assumption) ?_
        simp only [Act.put, List.getElem_toArray, List.getElem_cons_succ, List.getElem_cons_zero, List.setIfInBounds_toArray, List.set_cons_zero, List.set_cons_succ]
        refine goes_take (i := 12) (v := undef) rfl (by kernel_rfl) (by kernel_rfl) (by kernel_rfl) (by kernel_rfl) (fun _ _ _ h => h) (Or.inr ⟨by rfl, rfl⟩) (by assumption) ?_
        simp only [Act.put, List.getElem_toArray, List.getElem_cons_succ, List.getElem_cons_zero, List.setIfInBounds_toArray, List.set_cons_zero, List.set_cons_succ]
        refine goes_take (i := 13) (v := undef) rfl (by kernel_rfl) (by kernel_rfl) (by kernel_rfl) (by kernel_rfl) (fun _ _ _ h => h) (Or.inr ⟨by rfl, rfl⟩) (by assumption) ?_
        simp only [Act.put, List.getElem_toArray, List.getElem_cons_succ, List.getElem_cons_zero, List.setIfInBounds_toArray, List.set_cons_zero, List.set_cons_succ]
        refine goes_take (i := 14) (v := ?gv9) rfl (by kernel_rfl) (by kernel_rfl) (by kernel_rfl) (by kernel_rfl) (fun _ _ _ h => h) (Or.inl ⟨by rfl, ?gy9⟩) (by assumption) ?gr9
        case gy9 => (intro W9 hW9; obtain ⟨k1, k2, k3, k4, k5, k6⟩ := hW9; first | (go_simp; done) | (go_simp; with_reducible rfl))
        simp only [Act.put, List.getElem_toArray, List.getElem_cons_succ, List.getElem_cons_zero, List.setIfInBounds_toArray, List.set_cons_zero, List.set_cons_succ]
        refine goes_take (i := 15) (v := ?gv10) rfl (by kernel_rfl) (by kernel_rfl) (by kernel_rfl) (by kernel_rfl) (fun _ _ _ h => h) (Or.inl ⟨by rfl, ?gy10⟩) (by assumption) ?gr10
        case gy10 => (intro W9 hW9; obtain ⟨k1, k2, k3, k4, k5, k6⟩ := hW9; first | (go_simp; done) | (go_simp; with_reducible rfl))
        simp only [Act.put, List.getElem_toArray, List.getElem_cons_succ, List.getElem_cons_zero, List.setIfInBounds_toArray, List.set_cons_zero, List.set_cons_succ]
        obtain ⟨v1, v2, v3, v4, v5⟩ := HV.out false wr.drew (by simp) (Below.refl _ wr).drew
        have HRN := Lib.hid (And.intro v1 (And.intro v2 v3))
        clear v1 v2 v3
        refine goes_one (i := 16) (by kernel_rfl) rfl (fun K9 hK9 => ?_)
        go_simp
        refine hK9.out _ _ (fun h => absurd rfl h) (fun _ => ?_)
        clear hK9 K9
        refine goes_done (by kernel_rfl) ?_ _
        go_wp2
        go_roundw
        case rel => exact ⟨k + 1, num_succ k, by omega, Lib.hid HRN.out.1, Lib.hid HRN.out.2.1, Lib.hid HRN.out.2.2⟩
        case measure => simp [intOf]; omega
      · refine region_goes 16 17 rfl (fun W => W.cell? ⟨N, 1, none⟩ = some (.int .u64 (wd p.set 0)) ∧ W.cell? ⟨N, 2, none⟩ = some (.int .u64 (wd p.set 1)) ∧ W.cell? ⟨N, 3, none⟩ = some (.int .u64 (wd p.set 2)) ∧ W.cell? ⟨N, 4, none⟩ = some (.int .u64 (wd p.set 3)) ∧ W.cell? ⟨b, k, none⟩ = some (.bool true) ∧ W.cell? ⟨N + 1, k + 1, none⟩ = some (.bool z)) mixed ⟨e1, e2, e3, e4, e5, e6⟩ (fun hHeld => ?_)
        refine goes_take (i := 0) (v := ?gv11) rfl (by kernel_rfl) (by kernel_rfl) (by kernel_rfl) (by kernel_rfl) (fun _ _ _ h => h) (Or.inl ⟨by rfl, ?gy11⟩) (by assumption) ?gr11
        case gy11 => (intro W9 hW9; obtain ⟨k1, k2, k3, k4, k5, k6⟩ := hW9; first | (go_simp; done) | (go_simp; with_reducible rfl))
        simp only [Act.put, List.getElem_toArray, List.getElem_cons_succ, List.getElem_cons_zero, List.setIfInBounds_toArray, List.set_cons_zero, List.set_cons_succ]
        refine goes_take (i := 1) (v := ?gv12) rfl (by kernel_rfl) (by kernel_rfl) (by kernel_rfl) (by kernel_rfl) (fun _ _ _ h => h) (Or.inl ⟨by rfl, ?gy12⟩) (by assumption) ?gr12
        case gy12 => (intro W9 hW9; obtain ⟨k1, k2, k3, k4, k5, k6⟩ := hW9; first | (go_simp; done) | (go_simp; with_reducible rfl))
        simp only [Act.put, List.getElem_toArray, List.getElem_cons_succ, List.getElem_cons_zero, List.setIfInBounds_toArray, List.set_cons_zero, List.set_cons_succ]
        refine goes_take (i := 2) (v := .int .i64 ((k + 1 : Nat) : Int)) rfl (by kernel_rfl) (by kernel_rfl) (by kernel_rfl) (by kernel_rfl) (fun _ _ _ h => h) (Or.inl ⟨by rfl, ?gy13⟩) (by assumption) ?gr13
        case gy13 => (intro W9 hW9; obtain ⟨k1, k2, k3, k4, k5, k6⟩ := hW9; first | (go_simp; done) | (go_simp; with_reducible rfl))
        simp only [Act.put, List.getElem_toArray, List.getElem_cons_succ, List.getElem_cons_zero, List.setIfInBounds_toArray, List.set_cons_zero, List.set_cons_succ]
        refine goes_take (i := 3) (v := ?gv14) rfl (by kernel_rfl) (by kernel_rfl) (by kernel_rfl) (by kernel_rfl) (fun _ _ _ h => h) (Or.inl ⟨by rfl, ?gy14⟩) (by assumption) ?gr14
        case gy14 => (intro W9 hW9; obtain ⟨k1, k2, k3, k4, k5, k6⟩ := hW9; first | (go_simp; done) | (go_simp; with_reducible rfl))
        simp only [Act.put, List.getElem_toArray, List.getElem_cons_succ, List.getElem_cons_zero, List.setIfInBounds_toArray, List.set_cons_zero, List.set_cons_succ]
        refine goes_take (i := 4) (v := ?gv15) rfl (by kernel_rfl) (by kernel_rfl) (by kernel_rfl) (by kernel_rfl) (fun _ _ _ h => h) (Or.inl ⟨by rfl, ?gy15⟩) (by assumption) ?gr15
        case gy15 => (intro W9 hW9; obtain ⟨k1, k2, k3, k4, k5, k6⟩ := hW9; first | (go_simp; done) | (go_simp; with_reducible rfl))
        simp only [Act.put, List.getElem_toArray, List.getElem_cons_succ, List.getElem_cons_zero, List.setIfInBounds_toArray, List.set_cons_zero, List.set_cons_succ]
        refine goes_take (i := 5) (v := ?gv16) rfl (by kernel_rfl) (by kernel_rfl) (by kernel_rfl) (by kernel_rfl) (fun _ _ _ h => h) (Or.inl ⟨by rfl, ?gy16⟩) (by assumption) ?gr16
        case gy16 => (intro W9 hW9; obtain ⟨k1, k2, k3, k4, k5, k6⟩ := hW9; first | (go_simp; done) | (go_simp; with_reducible rfl))
        simp only [Act.put, List.getElem_toArray, List.getElem_cons_succ, List.getElem_cons_zero, List.setIfInBounds_toArray, List.set_cons_zero, List.set_cons_succ]
        refine goes_take (i := 6) (v := ?gv17) rfl (by kernel_rfl) (by kernel_rfl) (by kernel_rfl) (by kernel_rfl) (fun _ _ _ h => h) (Or.inl ⟨by rfl, ?gy17⟩) (by assumption) ?gr17
        case gy17 => (intro W9 hW9; obtain ⟨k1, k2, k3, k4, k5, k6⟩ := hW9; first | (go_simp; done) | (go_simp; with_reducible rfl))
        simp only [Act.put, List.getElem_toArray, List.getElem_cons_succ, List.getElem_cons_zero, List.setIfInBounds_toArray, List.set_cons_zero, List.set_cons_succ]
        refine goes_take (i := 7) (v := ?gv18) rfl (by kernel_rfl) (by kernel_rfl) (by kernel_rfl) (by kernel_rfl) (fun _ _ _ h => h) (Or.inl ⟨by rfl, ?gy18⟩) (by assumption) ?gr18
        case gy18 => (intro W9 hW9; obtain ⟨k1, k2, k3, k4, k5, k6⟩ := hW9; first | (go_simp; done) | (go_simp; with_reducible rfl))
        simp only [Act.put, List.getElem_toArray, List.getElem_cons_succ, List.getElem_cons_zero, List.setIfInBounds_toArray, List.set_cons_zero, List.set_cons_succ]
        refine goes_take (i := 8) (v := ?gv19) rfl (by kernel_rfl) (by kernel_rfl) (by kernel_rfl) (by kernel_rfl) (fun _ _ _ h => h) (Or.inl ⟨by rfl, ?gy19⟩) (by assumption) ?gr19
        case gy19 => (intro W9 hW9; obtain ⟨k1, k2, k3, k4, k5, k6⟩ := hW9; first | (go_simp; done) | (go_simp; with_reducible rfl))
        simp only [Act.put, List.getElem_toArray, List.getElem_cons_succ, List.getElem_cons_zero, List.setIfInBounds_toArray, List.set_cons_zero, List.set_cons_succ]
        refine goes_take (i := 9) (v := ?gv20) rfl (by kernel_rfl) (by kernel_rfl) (by kernel_rfl) (by kernel_rfl) (fun _ _ _ h => h) (Or.inl ⟨by rfl, ?gy20⟩) (by assumption) ?gr20
        case gy20 => (intro W9 hW9; obtain ⟨k1, k2, k3, k4, k5, k6⟩ := hW9; first | (go_simp; done) | (go_simp; with_reducible rfl))
        simp only [Act.put, List.getElem_toArray, List.getElem_cons_succ, List.getElem_cons_zero, List.setIfInBounds_toArray, List.set_cons_zero, List.set_cons_succ]
        refine goes_take (i := 10) (v := ?gv21) rfl (by kernel_rfl) (by kernel_rfl) (by kernel_rfl) (by kernel_rfl) (fun _ _ _ h => h) (Or.inl ⟨by rfl, ?gy21⟩) (by assumption) ?gr21
        case gy21 => (intro W9 hW9; obtain ⟨k1, k2, k3, k4, k5, k6⟩ := hW9; first | (go_simp; done) | (go_simp; with_reducible rfl))
        simp only [Act.put, List.getElem_toArray, List.getElem_cons_succ, List.getElem_cons_zero, List.setIfInBounds_toArray, List.set_cons_zero, List.set_cons_succ]
        refine goes_take (i := 11) (v := ?gv22) rfl (by kernel_rfl) (by kernel_rfl) (by kernel_rfl) (by kernel_rfl) (fun _ _ _ h => h) (Or.inl ⟨by rfl, ?gy22⟩) (by assumption) ?gr22
        case gy22 => (intro W9 hW9; obtain ⟨k1, k2, k3, k4, k5, k6⟩ := hW9; first | (go_simp; done) | (go_simp; with_reducible rfl))
        simp only [Act.put, List.getElem_toArray, List.getElem_cons_succ, List.getElem_cons_zero, List.setIfInBounds_toArray, List.set_cons_zero, List.set_cons_succ]
        refine goes_take (i := 12) (v := ?gv23) rfl (by kernel_rfl) (by kernel_rfl) (by kernel_rfl) (by kernel_rfl) (fun _ _ _ h => h) (Or.inl ⟨by rfl, ?gy23⟩) (by assumption) ?gr23
        case gy23 => (intro W9 hW9; obtain ⟨k1, k2, k3, k4, k5, k6⟩ := hW9; first | (go_simp; done) | (go_simp; with_reducible rfl))
        simp only [Act.put, List.getElem_toArray, List.getElem_cons_succ, List.getElem_cons_zero, List.setIfInBounds_toArray, List.set_cons_zero, List.set_cons_succ]
        refine goes_one (i := 13) (by kernel_rfl) rfl (fun K9 hK9 => ?_)
        go_simp
        refine (rhas_any p.set s[k].toNat hby _).mono ?_
        rintro e w5 ⟨rfl, hb5⟩
        rw [← HHAS.out]
        refine hK9.out _ _ (fun _ => set_keep hHeld hb5) (fun hHeld5 => ?_)
        have hHeld := hHeld5 (by decide)
        clear hHeld5 hK9 K9
        obtain ⟨v1, v2, v3, v4, v5⟩ := HV.out (hasAt s p.set k) w5 (by simp) ((Below.refl _ wr).drew.trans hb5)
        refine goes_take (i := 14) (v := ?gv24) rfl (by kernel_rfl) (by kernel_rfl) (by kernel_rfl) (by kernel_rfl) (fun _ _ _ h => h) (Or.inl ⟨by rfl, ?gy24⟩) (by assumption) ?gr24
        case gy24 => (intro W9 hW9; obtain ⟨k1, k2, k3, k4, k5, k6⟩ := hW9; first | (go_simp; done) | (go_simp; with_reducible rfl))
        simp only [Act.put, List.getElem_toArray, List.getElem_cons_succ, List.getElem_cons_zero, List.setIfInBounds_toArray, List.set_cons_zero, List.set_cons_succ]
        refine goes_take (i := 15) (v := ?gv25) rfl (by kernel_rfl) (by kernel_rfl) (by kernel_rfl) (by kernel_rfl) (fun _ _ _ h => h) (Or.inl ⟨by rfl, ?gy25⟩) (by assumption) ?gr25
        case gy25 => (intro W9 hW9; obtain ⟨k1, k2, k3, k4, k5, k6⟩ := hW9; first | (go_simp; done) | (go_simp; with_reducible rfl))
        simp only [Act.put, List.getElem_toArray, List.getElem_cons_succ, List.getElem_cons_zero, List.setIfInBounds_toArray, List.set_cons_zero, List.set_cons_succ]
        have HRN := Lib.hid (And.intro v1 (And.intro v2 v3))
        clear v1 v2 v3
        refine goes_one (i := 16) (by kernel_rfl) rfl (fun K9 hK9 => ?_)
        go_simp
        refine hK9.out _ _ (fun h => absurd rfl h) (fun _ => ?_)
        clear hK9 K9
        refine goes_done (by kernel_rfl) ?_ _
        go_wp2
        go_roundw
        case rel => exact ⟨k + 1, num_succ k, by omega, Lib.hid HRN.out.1, Lib.hid HRN.out.2.1, Lib.hid HRN.out.2.2⟩
        case measure => simp [intOf]; omega
    · obtain rfl : k = s.size := by omega
      have hd : decide ((s.size : Int) < s.size) = false := by simp
      go_wp2
      exact bodyPost_ret (v := .slice (some ⟨N + 1, 0, none⟩) n n) (by simp [results, Tryd.results62, go_sem, *]) rfl ⟨N + 1, _, rfl, Lib.hid (by omega), HO, HGO, HBW⟩
end Go.Proofs.YtpfhhdiipedklaaDoor
