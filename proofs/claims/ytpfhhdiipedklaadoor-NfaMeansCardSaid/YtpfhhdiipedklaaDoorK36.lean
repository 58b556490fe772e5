/- Texts that a proof rests on: The reference's from: rows, alternatives, repetitions, And and Not; from of all. -/
import Derived.Test.YtpfhhdiipedklaaDoorK35
import Derived.Laws.CopyRow
set_option maxRecDepth 100000
namespace Go.Proofs.YtpfhhdiipedklaaDoor
open Go.RowKit

/-- A row is copied onto another one. -/
theorem copy_places {n : Nat} {w : World} {c b : Nat} {f g : Nat → Bool} (hc : Blk w c n g) (hb : Blk w b n f) : ∃ w', (Builtin.copy_ #[74, 74] 3 #[.slice (some ⟨c, 0, none⟩) n n, .slice (some ⟨b, 0, none⟩) n n]).run Tryd.prog w = .ok (goInt n) w' ∧ Blk w' c n f ∧ ∀ N, N ≤ c → Below N w w' := by
  obtain ⟨i0, hi0, _, hz1, _⟩ := info_parts infoBool
  have hlen : ((List.range n).map fun i => Value.bool (f i)).length = n := by simp
  have hr := run_copy_row (P := Tryd.prog) w 74 74 3 4 c 0 n n ⟨b, 0, none⟩ n n (Places n g) 4 ((List.range n).map fun i => Value.bool (f i)) Tryd.underlying74 (by rw [hi0]; simp [hz1]) hc (by simp) (fun j v hj => by
      have hjn : j < n := by have := (List.getElem?_eq_some_iff.1 hj).1; simpa using this
      have hv : v = .bool (f j) := by
        rw [List.getElem?_map, List.getElem?_range hjn] at hj
        simpa using hj.symm
      subst hv
      have := hb.cell hjn
      have e : (⟨b, 0, none⟩ : Addr).add j = ⟨b, j, none⟩ := by unfold Addr.add; split <;> simp_all
      rw [e]; exact this) (by simp [places_size]) (fun v hv => by
      simp only [List.mem_map] at hv
      obtain ⟨i, _, rfl⟩ := hv
      rfl)
  rw [hlen] at hr
  have e : ((Places n g).toList.take 0 ++ ((List.range n).map fun i => Value.bool (f i)) ++ (Places n g).toList.drop (0 + n)).toArray = Places n f := by
    simp [Places]
  rw [e] at hr
  refine ⟨_, hr, setRow_heap w c _ _ _ _ hc, fun N hN => ⟨rfl, rfl, rfl, by simp [World.setRow], fun k hk => setRow_other w c k _ (by omega)⟩⟩
/-- The rows of kids, one behind the other. -/
theorem row_take {s : ByteArray} {l : List Pat} {k : Nat} (h : k < l.length) (i j : Int) : rowM s (l.take (k + 1)) i j ↔ ∃ m, rowM s (l.take k) i m ∧ l[k].M s m j := by
  rw [List.take_succ_eq_append_getElem h, rowM_append]
  simp only [rowM_one]
theorem alt_takeR {s : ByteArray} {l : List Pat} {k : Nat} (h : k < l.length) (i j : Int) : altM s (l.take (k + 1)) i j ↔ altM s (l.take k) i j ∨ l[k].M s i j := by
  rw [List.take_succ_eq_append_getElem h, altM_iff, altM_iff]
  simp only [List.mem_append, List.mem_singleton, or_and_right, exists_or, exists_eq_left]
set_option linter.unusedSimpArgs false in
set_option maxHeartbeats 4000000 in
theorem from_cat (s : ByteArray) (n : Nat) (p : Pat) (hop : p.op = 1) (H : ∀ q ∈ p.kids, FromC s n q) (hkl : p.kids.length ≤ 10000) (hn : s.size + 1 = n) (hsz : s.size ≤ 90) : FromC s n p := by
  intro ks w b f hk hb
  obtain ⟨a, cap, rfl⟩ := hk.len
  obtain ⟨N, hN⟩ : ∃ N, w.heap.size = N := ⟨_, rfl⟩
  have hmk := make_bools (c := (s.size : Int) + 1) (n := n) (by omega) (by omega)
  have HK := Lib.hid (show ∀ wr, Below N w wr → Kids wr p.kids (.slice a p.kids.length cap) from fun wr hbr => hk.below (by rw [hN]; exact hbr))
  have HB := Lib.hid (show ∀ wr, Below N w wr → Blk wr b n f from fun wr hbr => hb.old hbr (by have := hb.lt; omega))
  have hs2 : ((w.alloc (.cells #[.int .i64 p.op, .int .u64 (wd p.set 0), .int .u64 (wd p.set 1), .int .u64 (wd p.set 2), .int .u64 (wd p.set 3), .int .i64 p.lo, .int .i64 p.hi, .slice a p.kids.length cap] 36)).alloc (.cells (Places n fun _ => false) 4)).heap.size = N + 2 := by simp [hN]
  have hb2 : Below N w ((w.alloc (.cells #[.int .i64 p.op, .int .u64 (wd p.set 0), .int .u64 (wd p.set 1), .int .u64 (wd p.set 2), .int .u64 (wd p.set 3), .int .i64 p.lo, .int .i64 p.hi, .slice a p.kids.length cap] 36)).alloc (.cells (Places n fun _ => false) 4)) := by rw [← hN]; exact below2 w _ _
  have hx2 : ((w.alloc (.cells #[.int .i64 p.op, .int .u64 (wd p.set 0), .int .u64 (wd p.set 1), .int .u64 (wd p.set 2), .int .u64 (wd p.set 3), .int .i64 p.lo, .int .i64 p.hi, .slice a p.kids.length cap] 36)).alloc (.cells (Places n fun _ => false) 4)).heap[N]? = some (.cells #[.int .i64 p.op, .int .u64 (wd p.set 0), .int .u64 (wd p.set 1), .int .u64 (wd p.set 2), .int .u64 (wd p.set 3), .int .i64 p.lo, .int .i64 p.hi, .slice a p.kids.length cap] 36 (0, 0)) := by
    rw [heap_alloc_old _ _ (by simp; omega), ← hN]; exact heap_alloc_new w _
  have hr2 : Blk ((w.alloc (.cells #[.int .i64 p.op, .int .u64 (wd p.set 0), .int .u64 (wd p.set 1), .int .u64 (wd p.set 2), .int .u64 (wd p.set 3), .int .i64 p.lo, .int .i64 p.hi, .slice a p.kids.length cap] 36)).alloc (.cells (Places n fun _ => false) 4)) (N + 1) n (fun _ => false) := by
    have := Blk.new (w.alloc (.cells #[.int .i64 p.op, .int .u64 (wd p.set 0), .int .u64 (wd p.set 1), .int .u64 (wd p.set 2), .int .u64 (wd p.set 3), .int .i64 p.lo, .int .i64 p.hi, .slice a p.kids.length cap] 36)) n (fun _ => false)
    rw [World.size_alloc, hN] at this
    exact this
  have HOP := Lib.hid hop
  have HC := Lib.hid H
  clear hop H
  have d0 : (p.op == 0) = false := by simp [HOP.out]
  have d1 : (p.op == 1) = true := by simp [HOP.out]
  clear hk hb
  rw [hN]
  go_enter Tryd.func62, Tryd.ntmps62
  go_upto_region 2 with fail
  generalize hw2 : (w.alloc (.cells #[.int .i64 p.op, .int .u64 (wd p.set 0), .int .u64 (wd p.set 1), .int .u64 (wd p.set 2), .int .u64 (wd p.set 3), .int .i64 p.lo, .int .i64 p.hi, .slice a p.kids.length cap] 36)).alloc (.cells (Places n fun _ => false) 4) = w2 at *
  clear hw2 hmk
  obtain ⟨c0, c1, c2, c3, c4, c5, c6, c7⟩ := box8 hx2
  have HB2 := Lib.hid hb2
  have HX2 := Lib.hid hx2
  have HR2 := Lib.hid hr2
  have HS2 := Lib.hid hs2
  clear hb2 hx2 hr2
  go_upto_region 10 with fail
  obtain ⟨w3, hcp, hc3, hb3⟩ := copy_places HR2.out (HB.out w2 HB2.out)
  have HG0 := Lib.hid (Go.refl s.size (R := rowM s (p.kids.take 0)) (fun i j => by rw [List.take_zero, rowM_nil]) f)
  have HC3 := Lib.hid hc3
  have HB3 : Hid (Below N w w3) := Lib.hid (HB2.out.trans (hb3 N (by omega)))
  have HX3 : Hid (w3.heap[N]? = some (.cells #[.int .i64 p.op, .int .u64 (wd p.set 0), .int .u64 (wd p.set 1), .int .u64 (wd p.set 2), .int .u64 (wd p.set 3), .int .i64 p.lo, .int .i64 p.hi, .slice a p.kids.length cap] 36 (0, 0))) := Lib.hid (((hb3 (N + 1) (Nat.le_refl _)).block N (by omega)).trans HX2.out)
  clear hc3 hb3 HR2
  go_wp2
  clear hcp c0 c1 c2 c3 c4 c5 c6 c7 HX2 HB2
  go_loopw [7, 9] (fun v x wr => ∃ (m r : Nat) (g : Nat → Bool), x = .int .i64 m ∧ m ≤ p.kids.length ∧ v = .slice (some ⟨r, 0, none⟩) n n ∧ Hid (N ≤ r) ∧ Hid (wr.heap[N]? = some (.cells #[.int .i64 p.op, .int .u64 (wd p.set 0), .int .u64 (wd p.set 1), .int .u64 (wd p.set 2), .int .u64 (wd p.set 3), .int .i64 p.lo, .int .i64 p.hi, .slice a p.kids.length cap] 36 (0, 0))) ∧ Hid (Below N w wr) ∧ Hid (Blk wr r n g) ∧ Hid (Go s.size (rowM s (p.kids.take m)) f g)) (fun _ x _ => p.kids.length - (intOf x).toNat)
  case atStart => exact ⟨0, N + 1, f, rfl, Nat.zero_le _, rfl, Lib.hid (by omega), HX3, HB3, HC3, HG0⟩
  case round =>
    obtain ⟨m, r, g, rfl, hm, rfl, HR, HX, HBW, HGB, HG⟩ := hrel
    obtain ⟨c0, c1, c2, c3, c4, c5, c6, c7⟩ := box8 HX.out
    by_cases hml : m < p.kids.length
    · have hd2 : decide ((m : Int) < p.kids.length) = true := by simpa using hml
      obtain ⟨b', o', cap', e, hr⟩ := (HK.out _ HBW.out).row (by omega)
      rw [e] at c7
      clear e
      obtain ⟨ks', hks, e0, e1, e2, e3, e4, e5, e6, e7⟩ := (hr.at m hml).load
      have HCC := Lib.hid (HC.out _ (List.getElem_mem hml) ks' _ r g hks HGB.out)
      have HTK := Lib.hid (fun i j => row_take (s := s) hml i j)
      generalize p.kids[m] = q at *
      clear hks hr
      go_wp2_with (go_at_call 62; refine HCC.out.mono ?_; rintro e w5 ⟨r5, g5, rfl, HR5, HBL5, HG5, HBW5⟩)
      go_roundw
      case rel =>
        exact ⟨m + 1, r5, _, num_succ m, by omega, rfl, Lib.hid (by have := HR5.out; have := HBW.out.size; have := lt_of_block HX.out; omega), Lib.hid ((HBW5.out.block N (lt_of_block HX.out)).trans HX.out), Lib.hid (HBW.out.trans (HBW5.out.mono (by have := lt_of_block HX.out; omega))), HBL5, Lib.hid (HG.out.comp (fun i j h h0 h1 => row_mono s _ i j h h0 h1) HG5.out (fun i j => HTK.out i j))⟩
      case measure => simp [intOf]; omega
    · obtain rfl : m = p.kids.length := by omega
      have hd2 : decide ((p.kids.length : Int) < p.kids.length) = false := by simp
      have HF := Lib.hid (HG.out.iff (Q := p.M s) (fun i j _ _ => by rw [List.take_length]; exact M_cat HOP.out i j))
      go_wp2
      exact bodyPost_ret (v := .slice (some ⟨r, 0, none⟩) n n) (by simp [results, Tryd.results62, go_sem, *]) rfl ⟨r, g, rfl, HR, HGB, HF, HBW⟩
set_option linter.unusedSimpArgs false in
set_option maxHeartbeats 4000000 in
theorem from_alt (s : ByteArray) (n : Nat) (p : Pat) (hop : p.op = 2) (H : ∀ q ∈ p.kids, FromC s n q) (hkl : p.kids.length ≤ 10000) (hn : s.size + 1 = n) (hsz : s.size ≤ 90) : FromC s n p := by
  intro ks w b f hk hb
  obtain ⟨a, cap, rfl⟩ := hk.len
  obtain ⟨N, hN⟩ : ∃ N, w.heap.size = N := ⟨_, rfl⟩
  have hmk := make_bools (c := (s.size : Int) + 1) (n := n) (by omega) (by omega)
  have HK := Lib.hid (show ∀ wr, Below N w wr → Kids wr p.kids (.slice a p.kids.length cap) from fun wr hbr => hk.below (by rw [hN]; exact hbr))
  have HB := Lib.hid (show ∀ wr, Below N w wr → Blk wr b n f from fun wr hbr => hb.old hbr (by have := hb.lt; omega))
  have hs2 : ((w.alloc (.cells #[.int .i64 p.op, .int .u64 (wd p.set 0), .int .u64 (wd p.set 1), .int .u64 (wd p.set 2), .int .u64 (wd p.set 3), .int .i64 p.lo, .int .i64 p.hi, .slice a p.kids.length cap] 36)).alloc (.cells (Places n fun _ => false) 4)).heap.size = N + 2 := by simp [hN]
  have hb2 : Below N w ((w.alloc (.cells #[.int .i64 p.op, .int .u64 (wd p.set 0), .int .u64 (wd p.set 1), .int .u64 (wd p.set 2), .int .u64 (wd p.set 3), .int .i64 p.lo, .int .i64 p.hi, .slice a p.kids.length cap] 36)).alloc (.cells (Places n fun _ => false) 4)) := by rw [← hN]; exact below2 w _ _
  have hx2 : ((w.alloc (.cells #[.int .i64 p.op, .int .u64 (wd p.set 0), .int .u64 (wd p.set 1), .int .u64 (wd p.set 2), .int .u64 (wd p.set 3), .int .i64 p.lo, .int .i64 p.hi, .slice a p.kids.length cap] 36)).alloc (.cells (Places n fun _ => false) 4)).heap[N]? = some (.cells #[.int .i64 p.op, .int .u64 (wd p.set 0), .int .u64 (wd p.set 1), .int .u64 (wd p.set 2), .int .u64 (wd p.set 3), .int .i64 p.lo, .int .i64 p.hi, .slice a p.kids.length cap] 36 (0, 0)) := by
    rw [heap_alloc_old _ _ (by simp; omega), ← hN]; exact heap_alloc_new w _
  have hr2 : Blk ((w.alloc (.cells #[.int .i64 p.op, .int .u64 (wd p.set 0), .int .u64 (wd p.set 1), .int .u64 (wd p.set 2), .int .u64 (wd p.set 3), .int .i64 p.lo, .int .i64 p.hi, .slice a p.kids.length cap] 36)).alloc (.cells (Places n fun _ => false) 4)) (N + 1) n (fun _ => false) := by
    have := Blk.new (w.alloc (.cells #[.int .i64 p.op, .int .u64 (wd p.set 0), .int .u64 (wd p.set 1), .int .u64 (wd p.set 2), .int .u64 (wd p.set 3), .int .i64 p.lo, .int .i64 p.hi, .slice a p.kids.length cap] 36)) n (fun _ => false)
    rw [World.size_alloc, hN] at this
    exact this
  have HOP := Lib.hid hop
  have HC := Lib.hid H
  clear hop H
  have d0 : (p.op == 0) = false := by simp [HOP.out]
  have d1 : (p.op == 1) = false := by simp [HOP.out]
  have d2 : (p.op == 2) = true := by simp [HOP.out]
  clear hk hb
  rw [hN]
  go_enter Tryd.func62, Tryd.ntmps62
  go_upto_region 2 with fail
  generalize hw2 : (w.alloc (.cells #[.int .i64 p.op, .int .u64 (wd p.set 0), .int .u64 (wd p.set 1), .int .u64 (wd p.set 2), .int .u64 (wd p.set 3), .int .i64 p.lo, .int .i64 p.hi, .slice a p.kids.length cap] 36)).alloc (.cells (Places n fun _ => false) 4) = w2 at *
  clear hw2 hmk
  obtain ⟨c0, c1, c2, c3, c4, c5, c6, c7⟩ := box8 hx2
  have HB2 := Lib.hid hb2
  have HX2 := Lib.hid hx2
  have HR2 := Lib.hid hr2
  have HS2 := Lib.hid hs2
  clear hb2 hx2 hr2
  have HG0 := Lib.hid (Go.none s.size (R := altM s (p.kids.take 0)) (fun i j => by rw [List.take_zero, altM]; exact fun h => h) f)
  go_wp2
  clear c0 c1 c2 c3 c4 c5 c6 c7
  go_loopw [7, 10] (fun v x wr => ∃ (m r : Nat) (g : Nat → Bool), x = .int .i64 m ∧ m ≤ p.kids.length ∧ v = .slice (some ⟨r, 0, none⟩) n n ∧ Hid (N ≤ r) ∧ Hid (wr.heap[N]? = some (.cells #[.int .i64 p.op, .int .u64 (wd p.set 0), .int .u64 (wd p.set 1), .int .u64 (wd p.set 2), .int .u64 (wd p.set 3), .int .i64 p.lo, .int .i64 p.hi, .slice a p.kids.length cap] 36 (0, 0))) ∧ Hid (Below N w wr) ∧ Hid (Blk wr r n g) ∧ Hid (Go s.size (altM s (p.kids.take m)) f g)) (fun _ x _ => p.kids.length - (intOf x).toNat)
  case atStart => exact ⟨0, N + 1, _, rfl, Nat.zero_le _, rfl, Lib.hid (by omega), HX2, HB2, HR2, HG0⟩
  case round =>
    obtain ⟨m, r, g, rfl, hm, rfl, HR, HX, HBW, HGB, HG⟩ := hrel
    obtain ⟨c0, c1, c2, c3, c4, c5, c6, c7⟩ := box8 HX.out
    by_cases hml : m < p.kids.length
    · have hd2 : decide ((m : Int) < p.kids.length) = true := by simpa using hml
      obtain ⟨b', o', cap', e, hr⟩ := (HK.out _ HBW.out).row (by omega)
      rw [e] at c7
      clear e
      obtain ⟨ks', hks, e0, e1, e2, e3, e4, e5, e6, e7⟩ := (hr.at m hml).load
      have HCC := Lib.hid (HC.out _ (List.getElem_mem hml) ks' _ b f hks (HB.out _ HBW.out))
      have HTK := Lib.hid (fun i j => alt_takeR (s := s) hml i j)
      generalize p.kids[m] = q at *
      clear hks hr
      go_wp2_with (first
        | (go_at_call 62; refine HCC.out.mono ?_; rintro e w5 ⟨r5, g5, rfl, HR5, HBL5, HG5, HBW5⟩; have HGB5 := Lib.hid (HGB.out.below HBW5.out))
        | (go_at_call 69; refine (reither_any n r r5 g g5 w5 (by omega) HGB5.out HBL5.out).mono ?_; rintro e w6 ⟨r6, rfl, HR6, HBL6, HBW6⟩))
      go_roundw
      case rel =>
        have hx5 := (HBW5.out.block N (lt_of_block HX.out)).trans HX.out
        have hb5 := HBW.out.trans (HBW5.out.mono (by have := lt_of_block HX.out; omega))
        exact ⟨m + 1, r6, _, num_succ m, by omega, rfl, Lib.hid (by have := HR5.out; have := HBW.out.size; have := lt_of_block HX.out; have := HR6.out; have := HBW5.out.size; omega), Lib.hid ((HBW6.out.block N (lt_of_block hx5)).trans hx5), Lib.hid (hb5.trans (HBW6.out.mono (by have := lt_of_block hx5; omega))), HBL6, Lib.hid (HG.out.or HG5.out (fun i j => HTK.out i j))⟩
      case measure => simp [intOf]; omega
    · obtain rfl : m = p.kids.length := by omega
      have hd2 : decide ((p.kids.length : Int) < p.kids.length) = false := by simp
      have HF := Lib.hid (HG.out.iff (Q := p.M s) (fun i j _ _ => by rw [List.take_length]; exact M_alt HOP.out i j))
      go_wp2
      exact bodyPost_ret (v := .slice (some ⟨r, 0, none⟩) n n) (by simp [results, Tryd.results62, go_sem, *]) rfl ⟨r, g, rfl, HR, HGB, HF, HBW⟩
set_option linter.unusedSimpArgs false in
set_option maxHeartbeats 4000000 in
theorem from_rep (s : ByteArray) (n : Nat) (p : Pat) (hop : p.op = 3) (q : Pat) (hq : p.kids = [q]) (hnum : p.num = true) (H : FromC s n q) (hn : s.size + 1 = n) (hsz : s.size ≤ 90) : FromC s n p := by
  intro ks w b f hk hb
  obtain ⟨a, cap, rfl⟩ := hk.len
  obtain ⟨N, hN⟩ : ∃ N, w.heap.size = N := ⟨_, rfl⟩
  have hmk := make_bools (c := (s.size : Int) + 1) (n := n) (by omega) (by omega)
  have HK := Lib.hid (show ∀ wr, Below N w wr → Kids wr p.kids (.slice a p.kids.length cap) from fun wr hbr => hk.below (by rw [hN]; exact hbr))
  have HB := Lib.hid (show ∀ wr, Below N w wr → Blk wr b n f from fun wr hbr => hb.old hbr (by have := hb.lt; omega))
  have hs2 : ((w.alloc (.cells #[.int .i64 p.op, .int .u64 (wd p.set 0), .int .u64 (wd p.set 1), .int .u64 (wd p.set 2), .int .u64 (wd p.set 3), .int .i64 p.lo, .int .i64 p.hi, .slice a p.kids.length cap] 36)).alloc (.cells (Places n fun _ => false) 4)).heap.size = N + 2 := by simp [hN]
  have hb2 : Below N w ((w.alloc (.cells #[.int .i64 p.op, .int .u64 (wd p.set 0), .int .u64 (wd p.set 1), .int .u64 (wd p.set 2), .int .u64 (wd p.set 3), .int .i64 p.lo, .int .i64 p.hi, .slice a p.kids.length cap] 36)).alloc (.cells (Places n fun _ => false) 4)) := by rw [← hN]; exact below2 w _ _
  have hx2 : ((w.alloc (.cells #[.int .i64 p.op, .int .u64 (wd p.set 0), .int .u64 (wd p.set 1), .int .u64 (wd p.set 2), .int .u64 (wd p.set 3), .int .i64 p.lo, .int .i64 p.hi, .slice a p.kids.length cap] 36)).alloc (.cells (Places n fun _ => false) 4)).heap[N]? = some (.cells #[.int .i64 p.op, .int .u64 (wd p.set 0), .int .u64 (wd p.set 1), .int .u64 (wd p.set 2), .int .u64 (wd p.set 3), .int .i64 p.lo, .int .i64 p.hi, .slice a p.kids.length cap] 36 (0, 0)) := by
    rw [heap_alloc_old _ _ (by simp; omega), ← hN]; exact heap_alloc_new w _
  have hr2 : Blk ((w.alloc (.cells #[.int .i64 p.op, .int .u64 (wd p.set 0), .int .u64 (wd p.set 1), .int .u64 (wd p.set 2), .int .u64 (wd p.set 3), .int .i64 p.lo, .int .i64 p.hi, .slice a p.kids.length cap] 36)).alloc (.cells (Places n fun _ => false) 4)) (N + 1) n (fun _ => false) := by
    have := Blk.new (w.alloc (.cells #[.int .i64 p.op, .int .u64 (wd p.set 0), .int .u64 (wd p.set 1), .int .u64 (wd p.set 2), .int .u64 (wd p.set 3), .int .i64 p.lo, .int .i64 p.hi, .slice a p.kids.length cap] 36)) n (fun _ => false)
    rw [World.size_alloc, hN] at this
    exact this
  have HOP := Lib.hid hop
  have HOF := Lib.hid (fun wr (hbr : Below N w wr) => often_any s n p q hop hq hnum hn hsz H (.slice a p.kids.length cap) wr b f (HK.out wr hbr) (HB.out wr hbr))
  clear hop H hq
  have d0 : (p.op == 0) = false := by simp [HOP.out]
  have d1 : (p.op == 1) = false := by simp [HOP.out]
  have d2 : (p.op == 2) = false := by simp [HOP.out]
  have d3 : (p.op == 3) = true := by simp [HOP.out]
  clear hk hb
  rw [hN]
  go_enter Tryd.func62, Tryd.ntmps62
  go_upto_region 2 with fail
  generalize hw2 : (w.alloc (.cells #[.int .i64 p.op, .int .u64 (wd p.set 0), .int .u64 (wd p.set 1), .int .u64 (wd p.set 2), .int .u64 (wd p.set 3), .int .i64 p.lo, .int .i64 p.hi, .slice a p.kids.length cap] 36)).alloc (.cells (Places n fun _ => false) 4) = w2 at *
  clear hw2 hmk
  obtain ⟨c0, c1, c2, c3, c4, c5, c6, c7⟩ := box8 hx2
  have HB2 := Lib.hid hb2
  have HX2 := Lib.hid hx2
  have HR2 := Lib.hid hr2
  have HS2 := Lib.hid hs2
  clear hb2 hx2 hr2
  have HCC := Lib.hid (HOF.out w2 HB2.out)
  go_wp2_with (go_at_call 70; refine HCC.out.mono ?_; rintro e w5 ⟨r5, g5, rfl, HR5, HBL5, HG5, HBW5⟩)
  exact bodyPost_ret (v := .slice (some ⟨r5, 0, none⟩) n n) (by simp [results, Tryd.results62, go_sem, *]) rfl ⟨r5, g5, rfl, Lib.hid (by have := HR5.out; have := HS2.out; omega), HBL5, HG5, Lib.hid (HB2.out.trans (HBW5.out.mono (by have := HS2.out; omega)))⟩
set_option linter.unusedSimpArgs false in
set_option maxHeartbeats 4000000 in
theorem from_rest (s : ByteArray) (n : Nat) (p : Pat) (hop : p.op = 4 ∨ p.op = 5) (hl : p.op = 5 → p.kids.length = 1) (hkl : p.kids.length ≤ 10000) (H : ∀ q ∈ p.kids, FromC s n q) (hn : s.size + 1 = n) (hsz : s.size ≤ 90) : FromC s n p := by
  intro ks w b f hk hb
  obtain ⟨a, cap, rfl⟩ := hk.len
  obtain ⟨N, hN⟩ : ∃ N, w.heap.size = N := ⟨_, rfl⟩
  have hmk := make_bools (c := (s.size : Int) + 1) (n := n) (by omega) (by omega)
  have HK := Lib.hid (show ∀ wr, Below N w wr → Kids wr p.kids (.slice a p.kids.length cap) from fun wr hbr => hk.below (by rw [hN]; exact hbr))
  have HB := Lib.hid (show ∀ wr, Below N w wr → Blk wr b n f from fun wr hbr => hb.old hbr (by have := hb.lt; omega))
  have hs2 : ((w.alloc (.cells #[.int .i64 p.op, .int .u64 (wd p.set 0), .int .u64 (wd p.set 1), .int .u64 (wd p.set 2), .int .u64 (wd p.set 3), .int .i64 p.lo, .int .i64 p.hi, .slice a p.kids.length cap] 36)).alloc (.cells (Places n fun _ => false) 4)).heap.size = N + 2 := by simp [hN]
  have hb2 : Below N w ((w.alloc (.cells #[.int .i64 p.op, .int .u64 (wd p.set 0), .int .u64 (wd p.set 1), .int .u64 (wd p.set 2), .int .u64 (wd p.set 3), .int .i64 p.lo, .int .i64 p.hi, .slice a p.kids.length cap] 36)).alloc (.cells (Places n fun _ => false) 4)) := by rw [← hN]; exact below2 w _ _
  have hx2 : ((w.alloc (.cells #[.int .i64 p.op, .int .u64 (wd p.set 0), .int .u64 (wd p.set 1), .int .u64 (wd p.set 2), .int .u64 (wd p.set 3), .int .i64 p.lo, .int .i64 p.hi, .slice a p.kids.length cap] 36)).alloc (.cells (Places n fun _ => false) 4)).heap[N]? = some (.cells #[.int .i64 p.op, .int .u64 (wd p.set 0), .int .u64 (wd p.set 1), .int .u64 (wd p.set 2), .int .u64 (wd p.set 3), .int .i64 p.lo, .int .i64 p.hi, .slice a p.kids.length cap] 36 (0, 0)) := by
    rw [heap_alloc_old _ _ (by simp; omega), ← hN]; exact heap_alloc_new w _
  have hr2 : Blk ((w.alloc (.cells #[.int .i64 p.op, .int .u64 (wd p.set 0), .int .u64 (wd p.set 1), .int .u64 (wd p.set 2), .int .u64 (wd p.set 3), .int .i64 p.lo, .int .i64 p.hi, .slice a p.kids.length cap] 36)).alloc (.cells (Places n fun _ => false) 4)) (N + 1) n (fun _ => false) := by
    have := Blk.new (w.alloc (.cells #[.int .i64 p.op, .int .u64 (wd p.set 0), .int .u64 (wd p.set 1), .int .u64 (wd p.set 2), .int .u64 (wd p.set 3), .int .i64 p.lo, .int .i64 p.hi, .slice a p.kids.length cap] 36)) n (fun _ => false)
    rw [World.size_alloc, hN] at this
    exact this
  have HOP := Lib.hid hop
  have HAP := Lib.hid (fun wr (hbr : Below N w wr) o ho => apart_any s n p hop hl hn hsz hkl H (.slice a p.kids.length cap) wr o ho (HK.out wr hbr))
  clear hop H hl
  have d0 : (p.op == 0) = false := by rcases HOP.out with h | h <;> simp [h]
  have d1 : (p.op == 1) = false := by rcases HOP.out with h | h <;> simp [h]
  have d2 : (p.op == 2) = false := by rcases HOP.out with h | h <;> simp [h]
  have d3 : (p.op == 3) = false := by rcases HOP.out with h | h <;> simp [h]
  clear hk hb
  rw [hN]
  go_enter Tryd.func62, Tryd.ntmps62
  go_upto_region 2 with fail
  generalize hw2 : (w.alloc (.cells #[.int .i64 p.op, .int .u64 (wd p.set 0), .int .u64 (wd p.set 1), .int .u64 (wd p.set 2), .int .u64 (wd p.set 3), .int .i64 p.lo, .int .i64 p.hi, .slice a p.kids.length cap] 36)).alloc (.cells (Places n fun _ => false) 4) = w2 at *
  clear hw2 hmk
  obtain ⟨c0, c1, c2, c3, c4, c5, c6, c7⟩ := box8 hx2
  have HB2 := Lib.hid hb2
  have HX2 := Lib.hid hx2
  have HR2 := Lib.hid hr2
  have HS2 := Lib.hid hs2
  clear hb2 hx2 hr2
  go_wp2
  clear c0 c1 c2 c3 c4 c5 c6 c7
  go_loopw [7, 11] (fun v x wr => ∃ (m r : Nat) (g : Nat → Bool), x = .int .i64 m ∧ m ≤ n ∧ v = .slice (some ⟨r, 0, none⟩) n n ∧ Hid (N ≤ r) ∧ Hid (wr.heap[N]? = some (.cells #[.int .i64 p.op, .int .u64 (wd p.set 0), .int .u64 (wd p.set 1), .int .u64 (wd p.set 2), .int .u64 (wd p.set 3), .int .i64 p.lo, .int .i64 p.hi, .slice a p.kids.length cap] 36 (0, 0))) ∧ Hid (Below N w wr) ∧ Hid (Blk wr r n g) ∧ Hid (∀ x, x ≤ s.size → (g x = true ↔ ∃ y, y < m ∧ f y = true ∧ p.M s y x))) (fun _ x _ => n - (intOf x).toNat)
  case atStart => exact ⟨0, N + 1, _, rfl, Nat.zero_le _, rfl, Lib.hid (by omega), HX2, HB2, HR2, Lib.hid fun x _ => ⟨fun h => by simp at h, fun ⟨y, h, _⟩ => by omega⟩⟩
  case round =>
    obtain ⟨m, r, g, rfl, hm, rfl, HR, HX, HBW, HGB, HG⟩ := hrel
    obtain ⟨c0, c1, c2, c3, c4, c5, c6, c7⟩ := box8 HX.out
    by_cases hml : m < n
    · have hd2 : decide ((m : Int) < n) = true := by simpa using hml
      have cl := (HB.out wr HBW.out).cell hml
      have HCC := Lib.hid (HAP.out wr HBW.out m (by omega))
      cases hf : f m
      · have HF := Lib.hid hf
        rw [hf] at cl
        clear hf
        go_wp2
        go_roundw
        case rel => exact ⟨m + 1, r, g, num_succ m, by omega, rfl, HR, HX, HBW, HGB, Lib.hid fun x hx => by
          rw [HG.out x hx]
          constructor
          · rintro ⟨y, h1, h2⟩; exact ⟨y, by omega, h2⟩
          · rintro ⟨y, h1, h2, h3⟩
            by_cases e : y = m
            · subst e; rw [HF.out] at h2; cases h2
            · exact ⟨y, by omega, h2, h3⟩⟩
        case measure => simp [intOf]; omega
      · have HF := Lib.hid hf
        rw [hf] at cl
        clear hf
        go_wp2_with (first
          | (go_at_call 71; refine HCC.out.mono ?_; rintro e w5 ⟨r5, g5, rfl, HR5, HBL5, HG5, HBW5⟩; have HGB5 := Lib.hid (HGB.out.below HBW5.out))
          | (go_at_call 69; refine (reither_any n r r5 g g5 w5 (by omega) HGB5.out HBL5.out).mono ?_; rintro e w6 ⟨r6, rfl, HR6, HBL6, HBW6⟩))
        go_roundw
        case rel =>
          have hx5 := (HBW5.out.block N (lt_of_block HX.out)).trans HX.out
          have hb5 := HBW.out.trans (HBW5.out.mono (by have := lt_of_block HX.out; omega))
          exact ⟨m + 1, r6, _, num_succ m, by omega, rfl, Lib.hid (by have := HR5.out; have := HBW.out.size; have := lt_of_block HX.out; have := HR6.out; have := HBW5.out.size; omega), Lib.hid ((HBW6.out.block N (lt_of_block hx5)).trans hx5), Lib.hid (hb5.trans (HBW6.out.mono (by have := lt_of_block hx5; omega))), HBL6, Lib.hid fun x hx => by
            simp only [Bool.or_eq_true, HG.out x hx, HG5.out x hx]
            constructor
            · rintro (⟨y, h1, h2⟩ | h1)
              · exact ⟨y, by omega, h2⟩
              · exact ⟨m, by omega, HF.out, h1⟩
            · rintro ⟨y, h1, h2, h3⟩
              by_cases e : y = m
              · subst e; exact .inr h3
              · exact .inl ⟨y, by omega, h2, h3⟩⟩
        case measure => simp [intOf]; omega
    · obtain rfl : m = n := by omega
      have hd2 : decide ((m : Int) < m) = false := by simp
      have HFIN : Hid (Go s.size (p.M s) f g) := Lib.hid fun x hx => by
        rw [HG.out x hx]
        constructor
        · rintro ⟨y, h1, h2⟩; exact ⟨y, by omega, h2⟩
        · rintro ⟨y, h1, h2⟩; exact ⟨y, by omega, h2⟩
      go_wp2
      exact bodyPost_ret (v := .slice (some ⟨r, 0, none⟩) m m) (by simp [results, Tryd.results62, go_sem, *]) rfl ⟨r, g, rfl, HR, HGB, HFIN, HBW⟩
/-- From every place of a row, by any pattern. -/
theorem from_any (s : ByteArray) (n : Nat) (hn : s.size + 1 = n) (hsz : s.size ≤ 90) : ∀ (p : Pat), p.size ≤ 9000 → p.num = true → p.ok = true → FromC s n p := by
  intro p
  induction p using Pat.by_size with | h p ih => ?_
  intro hs hnum hok
  have hn2 := hnum
  have hse := size_eq p
  have hlen := length_sizes p.kids
  rw [num_eq, Bool.and_eq_true, List.all_eq_true] at hn2
  rw [ok_eq, Bool.and_eq_true, List.all_eq_true] at hok
  have hk : ∀ q ∈ p.kids, FromC s n q := fun q hq => ih q hq (by
    obtain ⟨i, hi, rfl⟩ := List.getElem_of_mem hq
    have := size_kid p.kids i hi; omega) (hn2.2 q hq) (hok.2 q hq)
  have hop : 0 ≤ p.op ∧ p.op ≤ 5 := by
    have := hn2.1
    unfold numN at this
    rw [Bool.and_eq_true] at this
    exact of_decide_eq_true this.1
  have hone : p.op = 3 ∨ p.op = 5 → p.kids.length = 1 := fun h => by
    have := hok.1
    rcases h with h | h <;> simpa [h] using this
  by_cases e0 : p.op = 0
  · exact from_set s n p e0 hn hsz
  by_cases e1 : p.op = 1
  · exact from_cat s n p e1 hk (by omega) hn hsz
  by_cases e2 : p.op = 2
  · exact from_alt s n p e2 hk (by omega) hn hsz
  by_cases e3 : p.op = 3
  · obtain ⟨q, hq⟩ := List.length_eq_one_iff.1 (hone (.inl e3))
    exact from_rep s n p e3 q hq hnum (hk q (by rw [hq]; simp)) hn hsz
  · exact from_rest s n p (by omega) (fun h => hone (.inr h)) (by omega) hk hn hsz
end Go.Proofs.YtpfhhdiipedklaaDoor
