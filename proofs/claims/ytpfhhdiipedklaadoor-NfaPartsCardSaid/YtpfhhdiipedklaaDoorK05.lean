/- Texts that a proof rests on: Contracts: Of, Count, and the references of Of, Not, Count, First. | Rows of sets in memory; contracts of Union and Inter. -/
import Derived.Test.YtpfhhdiipedklaaDoorK04
import Derived.StillTailTactics
set_option maxRecDepth 20000
namespace Go.Proofs.YtpfhhdiipedklaaDoor
open Go.RowKit

/-- The set of a row of bytes. -/
def ofB (l : List UInt8) : BitVec 256 := ofP (fun b => l.any (fun c => c.toNat == b))
theorem ofB_nil : ofB [] = 0 := by
  apply bv_ext
  intro b hb
  unfold ofB
  rw [get_ofP _ _ hb]
  simp
theorem ofB_snoc (l : List UInt8) (c : UInt8) : put (ofB l) c.toNat = ofB (l ++ [c]) := by
  apply bv_ext
  intro b hb
  have hc : c.toNat < 256 := c.toNat_lt
  rw [get_put _ _ _ hc]
  unfold ofB
  rw [get_ofP _ _ hb, get_ofP _ _ hb, List.any_append]
  have e : (c.toNat == b) = decide (b = c.toNat) := by rw [Bool.eq_iff_iff, beq_iff_eq, decide_eq_true_iff]; exact eq_comm
  simp [e]
theorem take_snoc (s : ByteArray) (k : Nat) (h : k < s.size) : s.data.toList.take (k + 1) = s.data.toList.take k ++ [s[k]] := by
  rw [List.take_succ_eq_append_getElem (by simpa using h)]; rfl
/-- A set boxed for a call, and kept. -/
theorem box_start (w : World) (s : BitVec 256) : SetAt (w.alloc (.cells #[.int .u64 (wd s 0), .int .u64 (wd s 1), .int .u64 (wd s 2), .int .u64 (wd s 3)] 33)) w.heap.size s ∧ Below w.heap.size w (w.alloc (.cells #[.int .u64 (wd s 0), .int .u64 (wd s 1), .int .u64 (wd s 2), .int .u64 (wd s 3)] 33)) :=
  ⟨SetAt.new w s, (Below.refl _ _).alloc (Nat.le_refl _) _⟩
/-- The bytes below k that a set hasn't. -/
theorem not_end (s : BitVec 256) : upTo (fun b => !s.getLsbD b) 256 = ~~~s := by
  apply bv_ext
  intro b hb
  rw [get_upTo _ _ _ (Nat.le_refl _), BitVec.getLsbD_not]
theorem not_start (w : World) (s : BitVec 256) :
    SetAt (((w.alloc (.cells #[.int .u64 (wd s 0), .int .u64 (wd s 1), .int .u64 (wd s 2), .int .u64 (wd s 3)] 33)).alloc (.cells #[.int .u64 0, .int .u64 0, .int .u64 0, .int .u64 0] 33)).alloc (.cells #[.int .u64 0, .int .u64 0, .int .u64 0, .int .u64 0] 33)) w.heap.size s ∧
    SetAt (((w.alloc (.cells #[.int .u64 (wd s 0), .int .u64 (wd s 1), .int .u64 (wd s 2), .int .u64 (wd s 3)] 33)).alloc (.cells #[.int .u64 0, .int .u64 0, .int .u64 0, .int .u64 0] 33)).alloc (.cells #[.int .u64 0, .int .u64 0, .int .u64 0, .int .u64 0] 33)) (w.heap.size + 1) 0 ∧
    SetAt (((w.alloc (.cells #[.int .u64 (wd s 0), .int .u64 (wd s 1), .int .u64 (wd s 2), .int .u64 (wd s 3)] 33)).alloc (.cells #[.int .u64 0, .int .u64 0, .int .u64 0, .int .u64 0] 33)).alloc (.cells #[.int .u64 0, .int .u64 0, .int .u64 0, .int .u64 0] 33)) (w.heap.size + 1 + 1) 0 ∧
    Below w.heap.size w (((w.alloc (.cells #[.int .u64 (wd s 0), .int .u64 (wd s 1), .int .u64 (wd s 2), .int .u64 (wd s 3)] 33)).alloc (.cells #[.int .u64 0, .int .u64 0, .int .u64 0, .int .u64 0] 33)).alloc (.cells #[.int .u64 0, .int .u64 0, .int .u64 0, .int .u64 0] 33)) := by
  obtain ⟨h1, h2, h3⟩ := @atStart_two (w.alloc (.cells #[.int .u64 (wd s 0), .int .u64 (wd s 1), .int .u64 (wd s 2), .int .u64 (wd s 3)] 33))
  refine ⟨(SetAt.new w s).grown h3, by simpa using h2, by simpa using h1, ((box_start w s).2).trans (h3.mono (by simp))⟩
end Go.Proofs.YtpfhhdiipedklaaDoor
set_option maxRecDepth 20000
namespace Go.Proofs.YtpfhhdiipedklaaDoor
open Go.RowKit

/-- From block b, place off on, the sets l lie one behind the other. -/
def SetsAt (w : World) (b off : Nat) (l : List (BitVec 256)) : Prop := b < w.heap.size ∧ ∀ i (_ : i < l.length), ∀ j, j < 4 → w.cell? ⟨b, off + i * 4 + j, none⟩ = some (.int .u64 (wd l[i] j))
/-- The slice value v reads as l. -/
def Sl (w : World) (v : Value) (l : List (BitVec 256)) : Prop := l.length ≤ maxLen ∧ ((l = [] ∧ ∃ a cap, v = .slice a 0 cap) ∨ ∃ b off cap, v = .slice (some ⟨b, off, none⟩) l.length cap ∧ SetsAt w b off l)
theorem SetsAt.below {w w' : World} {b off : Nat} {l : List (BitVec 256)} (h : SetsAt w b off l) (hb : Below w.heap.size w w') : SetsAt w' b off l :=
  ⟨Nat.lt_of_lt_of_le h.1 hb.size, fun i hi j hj => by rw [hb.cell (p := ⟨b, _, none⟩) h.1]; exact h.2 i hi j hj⟩
theorem SetsAt.lower {w w' : World} {b off B : Nat} {l : List (BitVec 256)} (h : SetsAt w b off l) (hb : Below B w w') (hB : b < B) : SetsAt w' b off l :=
  ⟨Nat.lt_of_lt_of_le h.1 hb.size, fun i hi j hj => by rw [hb.cell (p := ⟨b, _, none⟩) hB]; exact h.2 i hi j hj⟩
theorem Sl.below {w w' : World} {v : Value} {l : List (BitVec 256)} (h : Sl w v l) (hb : Below w.heap.size w w') : Sl w' v l := by
  rcases h with ⟨h0, h | ⟨b, off, cap, hv, h⟩⟩
  · exact ⟨h0, .inl h⟩
  · exact ⟨h0, .inr ⟨b, off, cap, hv, h.below hb⟩⟩
theorem SetsAt.cells {w : World} {b off : Nat} {l : List (BitVec 256)} (h : SetsAt w b off l) (i : Nat) (hi : i < l.length) :
    w.cell? ⟨b, off + i * 4, none⟩ = some (.int .u64 (wd l[i] 0)) ∧ w.cell? ⟨b, off + i * 4 + 1, none⟩ = some (.int .u64 (wd l[i] 1)) ∧ w.cell? ⟨b, off + i * 4 + 1 + 1, none⟩ = some (.int .u64 (wd l[i] 2)) ∧ w.cell? ⟨b, off + i * 4 + 1 + 1 + 1, none⟩ = some (.int .u64 (wd l[i] 3)) :=
  ⟨h.2 i hi 0 (by omega), h.2 i hi 1 (by omega), h.2 i hi 2 (by omega), h.2 i hi 3 (by omega)⟩
/-- What one of them has. -/
def unionL (l : List (BitVec 256)) : BitVec 256 := l.foldl (· ||| ·) 0
theorem union_snoc (l : List (BitVec 256)) (x : BitVec 256) : unionL (l ++ [x]) = unionL l ||| x := by simp [unionL]
theorem union_nil_wd (i : Nat) : wd (unionL []) i = 0 := wd_zero i
set_option maxHeartbeats 1000000 in
theorem union_any (v : Value) (l : List (BitVec 256)) (w : World) (hv : Sl w v l) :
    Calls Tryd.prog 72 #[v] w fun e w' => e = .returned (.agg #[.int .u64 (wd (unionL l) 0), .int .u64 (wd (unionL l) 1), .int .u64 (wd (unionL l) 2), .int .u64 (wd (unionL l) 3)]) ∧ Below w.heap.size w w' := by
  obtain ⟨hlen, hv⟩ := hv
  unfold maxLen at hlen
  rcases hv with ⟨rfl, a, cap, rfl⟩ | ⟨b, off, cap, rfl, hl⟩
  · go_enter Tryd.func72, Tryd.ntmps72
    go_wp2
    refine wp_loop_rounds 1 ?_
    rw [rounds_succ]; go_wp2
    refine bodyPost_ret (v := (.agg #[.int .u64 (wd (unionL []) 0), .int .u64 (wd (unionL []) 1), .int .u64 (wd (unionL []) 2), .int .u64 (wd (unionL []) 3)])) (by simp [results, Tryd.results72, go_sem, union_nil_wd]) rfl ⟨rfl, ?_⟩
    exact ((Below.refl _ _).alloc (Nat.le_refl _) _).alloc (by simp) _
  · go_enter Tryd.func72, Tryd.ntmps72
    go_wp2
    go_loopw [10] (fun i wr => ∃ k : Nat, k ≤ l.length ∧ i = .int .i64 k ∧ SetAt wr w.heap.size 0 ∧ SetAt wr (w.heap.size + 1) (unionL (l.take k)) ∧ Below w.heap.size w wr) (fun i _ => l.length - (intOf i).toNat)
    case atStart =>
      obtain ⟨h1, h2, h3⟩ := @atStart_two w
      exact ⟨0, by omega, rfl, h2, h1, h3⟩
    case round =>
      obtain ⟨k, hk, rfl, hz, hs, hbw⟩ := hrel
      by_cases hlt : k < l.length
      · obtain ⟨e0, e1, e2, e3⟩ := (hl.lower hbw hl.1).cells k hlt
        obtain ⟨c0, c1, c2, c3⟩ := hs.cells
        obtain ⟨f0, f1, f2, f3⟩ := hs.free
        have hsz := hs.lt
        generalize hu : unionL (l.take k) = u at *
        have HU := Lib.hid hu; clear hu
        generalize hx : l[k] = x at *
        have HX := Lib.hid hx; clear hx
        have i0 := ix0 (.int .u64 (wd x 0)) (.int .u64 (wd x 1)) (.int .u64 (wd x 2)) (.int .u64 (wd x 3))
        have i1 := ix1 (.int .u64 (wd x 0)) (.int .u64 (wd x 1)) (.int .u64 (wd x 2)) (.int .u64 (wd x 3))
        have i2 := ix2 (.int .u64 (wd x 0)) (.int .u64 (wd x 1)) (.int .u64 (wd x 2)) (.int .u64 (wd x 3))
        have i3 := ix3 (.int .u64 (wd x 0)) (.int .u64 (wd x 1)) (.int .u64 (wd x 2)) (.int .u64 (wd x 3))
        have o0 := wd_or u x 0
        have o1 := wd_or u x 1
        have o2 := wd_or u x 2
        have o3 := wd_or u x 3
        go_wp2
        refine wp_loop_rounds 5 ?_
        rw [rounds_succ]; go_wp2
        rw [rounds_succ]; go_wp2
        rw [rounds_succ]; go_wp2
        rw [rounds_succ]; go_wp2
        rw [rounds_succ]; go_wp2
        go_roundw
        case rel =>
          refine ⟨k + 1, by omega, num_succ k, (hz.other4 (by omega) _ _ _ _).alloc _, ?_, (below_set4 hbw (by omega) _ _ _ _).alloc (by simp [World.setCell]; omega) _⟩
          rw [List.take_succ_eq_append_getElem hlt, HX.out, union_snoc, HU.out]
          exact (hs.store _).alloc _
        case measure => simp [intOf]; omega
      · obtain rfl : k = l.length := by omega
        rw [List.take_length] at hs
        obtain ⟨c0, c1, c2, c3⟩ := hs.cells
        obtain ⟨d0, d1, d2, d3⟩ := hz.cells
        obtain ⟨g0, g1, g2, g3⟩ := hz.free
        go_wp2
        refine bodyPost_ret (v := (.agg #[.int .u64 (wd (unionL l) 0), .int .u64 (wd (unionL l) 1), .int .u64 (wd (unionL l) 2), .int .u64 (wd (unionL l) 3)])) (by simp [results, Tryd.results72, go_sem, *]) rfl ⟨rfl, ?_⟩
        exact below_set4 hbw (by omega) _ _ _ _
/-- All bytes. -/
def full : BitVec 256 := ~~~0
/-- What all of them have. -/
def interL (l : List (BitVec 256)) : BitVec 256 := l.foldl (· &&& ·) full
theorem inter_snoc (l : List (BitVec 256)) (x : BitVec 256) : interL (l ++ [x]) = interL l &&& x := by simp [interL]
theorem zero_then {w w1 : World} (hb : Below (w.alloc (.cells #[.int .u64 0, .int .u64 0, .int .u64 0, .int .u64 0] 33)).heap.size (w.alloc (.cells #[.int .u64 0, .int .u64 0, .int .u64 0, .int .u64 0] 33)) w1) : SetAt w1 w.heap.size 0 ∧ Below w.heap.size w w1 :=
  ⟨(SetAt.zero w).grown hb, ((Below.refl _ _).alloc (Nat.le_refl _) _).trans (hb.mono (by simp))⟩
end Go.Proofs.YtpfhhdiipedklaaDoor
