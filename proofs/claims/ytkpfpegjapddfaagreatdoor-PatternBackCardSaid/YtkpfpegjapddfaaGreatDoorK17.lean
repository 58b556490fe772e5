/- Texts that a proof rests on: Contracts of homographref02: Set, Many, Rep, Size, Null. | Contracts of regex: copies, node, and what makes nodes of them. -/
import Derived.Test.YtkpfpegjapddfaaGreatDoorK09
import Derived.Deep.RegionWith
set_option maxRecDepth 20000
namespace Go.Proofs.YtkpfpegjapddfaaGreatDoor
open Go.RowKit

set_option maxHeartbeats 400000 in
theorem rset_any (s : BitVec 256) (w : World) :
    Calls Tryz.prog 9 #[(.agg #[.int .u64 (wd (s) 0), .int .u64 (wd (s) 1), .int .u64 (wd (s) 2), .int .u64 (wd (s) 3)])] w fun e w' => e = .returned (.agg #[.int .i64 (Pat.mk 0 s 0 0 []).op, .int .u64 (wd (Pat.mk 0 s 0 0 []).set 0), .int .u64 (wd (Pat.mk 0 s 0 0 []).set 1), .int .u64 (wd (Pat.mk 0 s 0 0 []).set 2), .int .u64 (wd (Pat.mk 0 s 0 0 []).set 3), .int .i64 (Pat.mk 0 s 0 0 []).lo, .int .i64 (Pat.mk 0 s 0 0 []).hi, .slice none 0 0]) ∧ Below w.heap.size w w' := by
  go_enter Tryz.func9, Tryz.ntmps9
  go_wp2
  refine bodyPost_ret (v := (.agg #[.int .i64 (Pat.mk 0 s 0 0 []).op, .int .u64 (wd (Pat.mk 0 s 0 0 []).set 0), .int .u64 (wd (Pat.mk 0 s 0 0 []).set 1), .int .u64 (wd (Pat.mk 0 s 0 0 []).set 2), .int .u64 (wd (Pat.mk 0 s 0 0 []).set 3), .int .i64 (Pat.mk 0 s 0 0 []).lo, .int .i64 (Pat.mk 0 s 0 0 []).hi, .slice none 0 0])) (by simp [results, Tryz.results9, go_sem, Pat.op, Pat.set, Pat.lo, Pat.hi]) rfl ⟨rfl, ?_⟩
  exact ((Below.refl _ _).alloc (Nat.le_refl _) _).alloc (by simp) _
set_option maxHeartbeats 400000 in
theorem rmany_any (op : Int) (ks : Value) (kids : List Pat) (w : World) (hk : Kids w kids ks) :
    Calls Tryz.prog 16 #[.int .i64 op, ks] w fun e w' => e = .returned (.agg #[.int .i64 (Pat.mk op 0 0 0 kids).op, .int .u64 (wd (Pat.mk op 0 0 0 kids).set 0), .int .u64 (wd (Pat.mk op 0 0 0 kids).set 1), .int .u64 (wd (Pat.mk op 0 0 0 kids).set 2), .int .u64 (wd (Pat.mk op 0 0 0 kids).set 3), .int .i64 (Pat.mk op 0 0 0 kids).lo, .int .i64 (Pat.mk op 0 0 0 kids).hi, ks]) ∧ Below w.heap.size w w' := by
  obtain ⟨a, cap, rfl⟩ := hk.len
  go_enter Tryz.func16, Tryz.ntmps16
  go_wp2
  refine bodyPost_ret (v := (.agg #[.int .i64 (Pat.mk op 0 0 0 kids).op, .int .u64 (wd (Pat.mk op 0 0 0 kids).set 0), .int .u64 (wd (Pat.mk op 0 0 0 kids).set 1), .int .u64 (wd (Pat.mk op 0 0 0 kids).set 2), .int .u64 (wd (Pat.mk op 0 0 0 kids).set 3), .int .i64 (Pat.mk op 0 0 0 kids).lo, .int .i64 (Pat.mk op 0 0 0 kids).hi, .slice a kids.length cap])) (by simp [results, Tryz.results16, go_sem, Pat.op, Pat.set, Pat.lo, Pat.hi, wd_none]) rfl ⟨rfl, ?_⟩
  exact ((Below.refl _ _).alloc (Nat.le_refl _) _)
set_option maxHeartbeats 400000 in
theorem rmany_sl (op : Int) (a : Option Addr) (n cap : Nat) (kids : List Pat) (w : World) :
    Calls Tryz.prog 16 #[.int .i64 op, .slice a n cap] w fun e w' => e = .returned (.agg #[.int .i64 (Pat.mk op 0 0 0 kids).op, .int .u64 (wd (Pat.mk op 0 0 0 kids).set 0), .int .u64 (wd (Pat.mk op 0 0 0 kids).set 1), .int .u64 (wd (Pat.mk op 0 0 0 kids).set 2), .int .u64 (wd (Pat.mk op 0 0 0 kids).set 3), .int .i64 (Pat.mk op 0 0 0 kids).lo, .int .i64 (Pat.mk op 0 0 0 kids).hi, .slice a n cap]) ∧ Below w.heap.size w w' := by
  go_enter Tryz.func16, Tryz.ntmps16
  go_wp2
  refine bodyPost_ret (v := (.agg #[.int .i64 (Pat.mk op 0 0 0 kids).op, .int .u64 (wd (Pat.mk op 0 0 0 kids).set 0), .int .u64 (wd (Pat.mk op 0 0 0 kids).set 1), .int .u64 (wd (Pat.mk op 0 0 0 kids).set 2), .int .u64 (wd (Pat.mk op 0 0 0 kids).set 3), .int .i64 (Pat.mk op 0 0 0 kids).lo, .int .i64 (Pat.mk op 0 0 0 kids).hi, .slice a n cap])) (by simp [results, Tryz.results16, go_sem, Pat.op, Pat.set, Pat.lo, Pat.hi, wd_none]) rfl ⟨rfl, ?_⟩
  exact ((Below.refl _ _).alloc (Nat.le_refl _) _)
set_option maxHeartbeats 400000 in
theorem rrep_any (p : Pat) (ks : Value) (lo hi : Int) (w : World) (hk : Kids w p.kids ks) :
    Calls Tryz.prog 18 #[(.agg #[.int .i64 p.op, .int .u64 (wd p.set 0), .int .u64 (wd p.set 1), .int .u64 (wd p.set 2), .int .u64 (wd p.set 3), .int .i64 p.lo, .int .i64 p.hi, ks]), .int .i64 lo, .int .i64 hi] w fun e w' => ∃ ks', e = .returned (.agg #[.int .i64 (Pat.mk 3 0 lo hi [p]).op, .int .u64 (wd (Pat.mk 3 0 lo hi [p]).set 0), .int .u64 (wd (Pat.mk 3 0 lo hi [p]).set 1), .int .u64 (wd (Pat.mk 3 0 lo hi [p]).set 2), .int .u64 (wd (Pat.mk 3 0 lo hi [p]).set 3), .int .i64 (Pat.mk 3 0 lo hi [p]).lo, .int .i64 (Pat.mk 3 0 lo hi [p]).hi, ks']) ∧ Kids w' [p] ks' ∧ Below w.heap.size w w' := by
  have hk0 := hk
  obtain ⟨a, cap, rfl⟩ := hk.len
  go_enter Tryz.func18, Tryz.ntmps18
  go_wp2
  refine bodyPost_ret (v := (.agg #[.int .i64 (Pat.mk 3 0 lo hi [p]).op, .int .u64 (wd (Pat.mk 3 0 lo hi [p]).set 0), .int .u64 (wd (Pat.mk 3 0 lo hi [p]).set 1), .int .u64 (wd (Pat.mk 3 0 lo hi [p]).set 2), .int .u64 (wd (Pat.mk 3 0 lo hi [p]).set 3), .int .i64 (Pat.mk 3 0 lo hi [p]).lo, .int .i64 (Pat.mk 3 0 lo hi [p]).hi, .slice (some ⟨w.heap.size + 1 + 1, 0, none⟩) 1 1])) (by simp [results, Tryz.results18, go_sem, Pat.op, Pat.set, Pat.lo, Pat.hi, wd_none]) rfl ⟨_, rfl, ?_, ?_⟩
  · exact (hk0.below (below2 _ _ _)).one (by simp)
  · exact below3 _ _ _ _
theorem all_take (l : List Pat) (f : Pat → Bool) (k : Nat) (h : k < l.length) : (l.take (k + 1)).all f = ((l.take k).all f && f l[k]) := by
  rw [List.take_succ_eq_append_getElem h, List.all_append]; simp
theorem any_take (l : List Pat) (f : Pat → Bool) (k : Nat) (h : k < l.length) : (l.take (k + 1)).any f = ((l.take k).any f || f l[k]) := by
  rw [List.take_succ_eq_append_getElem h, List.any_append]; simp
theorem rnul_case (p : Pat) (a o : Bool) (ha : p.kids.all Pat.rnul = a) (ho : p.kids.any Pat.rnul = o) : p.rnul = (bif p.op == 1 then a else bif p.op == 4 then a else bif p.op == 2 then o else bif p.op == 3 then (p.lo == 0 || o) else bif p.op == 5 then !o else false) := by
  rw [rnul_eq, ha, ho]
end Go.Proofs.YtkpfpegjapddfaaGreatDoor
set_option maxRecDepth 20000
namespace Go.Proofs.YtkpfpegjapddfaaGreatDoor
open Go.RowKit

/-- The zero node. -/
def zeroP : Pat := .mk 0 0 0 0 []
theorem made_row (n : Nat) : (madeCells (Value.agg #[.int .i64 0, .int .u64 0, .int .u64 0, .int .u64 0, .int .u64 0, .int .i64 0, .int .i64 0, .slice none 0 0]).cells (n * 8)).toList = flatN (List.replicate n (zeroP, .slice none 0 0)) := by
  apply List.ext_getElem?
  intro j
  by_cases hj : j < n * 8
  · have e : j = (j / 8) * 8 + j % 8 := by omega
    have hq : j / 8 < n := by omega
    have h2 := flatN_at (List.replicate n (zeroP, Value.slice none 0 0)) (j / 8) (by simpa using hq) (j % 8) (Nat.mod_lt _ (by omega))
    rw [← e] at h2
    rw [h2]
    simp only [List.getElem_replicate]
    have hm : j % 8 < 8 := Nat.mod_lt _ (by omega)
    have hz : ∀ i, wd zeroP.set i = 0 := fun i => wd_zero i
    simp only [madeCells, Value.cells, hz]
    have hs : (List.map (fun x => (#[Value.int .i64 0, .int .u64 0, .int .u64 0, .int .u64 0, .int .u64 0, .int .i64 0, .int .i64 0, .slice none 0 0] : Array Value)[x % 8]!) (List.range (n * 8)))[j]? = some ((#[Value.int .i64 0, .int .u64 0, .int .u64 0, .int .u64 0, .int .u64 0, .int .i64 0, .int .i64 0, .slice none 0 0] : Array Value)[j % 8]!) := by
      rw [List.getElem?_map, List.getElem?_range hj]; rfl
    have hs2 : ∀ r, r < 8 → some ((#[Value.int .i64 0, .int .u64 0, .int .u64 0, .int .u64 0, .int .u64 0, .int .i64 0, .int .i64 0, .slice none 0 0] : Array Value)[r]!) = [Value.int IntKind.i64 zeroP.op, .int .u64 ((0 : Nat) : Int), .int .u64 ((0 : Nat) : Int), .int .u64 ((0 : Nat) : Int), .int .u64 ((0 : Nat) : Int), .int .i64 zeroP.lo, .int .i64 zeroP.hi, .slice none 0 0][r]? := by
      intro r hr
      match r, hr with
      | 0, _ | 1, _ | 2, _ | 3, _ | 4, _ | 5, _ | 6, _ | 7, _ => rfl
    rw [← hs2 _ hm, ← hs]
    simp
  · rw [List.getElem?_eq_none (by simp [madeCells]; omega), List.getElem?_eq_none (by rw [flatN_length]; simp; omega)]
theorem make_nodes (n : Nat) (hn : n ≤ 100000) (w : World) : (Instr.makeSlice 26 (.int .i64 n) (.int .i64 n)).run Tryz.prog w = .ok (.slice (some ⟨w.heap.size, 0, none⟩) n n) (w.alloc (.cells (madeCells (Value.agg #[.int .i64 0, .int .u64 0, .int .u64 0, .int .u64 0, .int .u64 0, .int .i64 0, .int .i64 0, .slice none 0 0]).cells (n * 8)) 28)) := by
  obtain ⟨i, hi, hz, hs, hb⟩ := info_parts infoNode
  have := run_make (P := Tryz.prog) w 26 28 i _ Tryz.underlying26 hi hz .i64 .i64 n n (by omega) (Int.le_refl _) (by rw [hb]; omega) (by omega)
  simpa [hs] using this
theorem NRow.made (w : World) (n : Nat) (hn : n ≤ 100000) : NRow (w.alloc (.cells (madeCells (Value.agg #[.int .i64 0, .int .u64 0, .int .u64 0, .int .u64 0, .int .u64 0, .int .i64 0, .int .i64 0, .slice none 0 0]).cells (n * 8)) 28)) w.heap.size (.slice (some ⟨w.heap.size, 0, none⟩) n n) (List.replicate n (zeroP, .slice none 0 0)) := by
  have h := World.ownsRow_lit (base := w.heap.size) (e := 28) (size := 8) w (madeCells (Value.agg #[.int .i64 0, .int .u64 0, .int .u64 0, .int .u64 0, .int .u64 0, .int .i64 0, .int .i64 0, .slice none 0 0]).cells (n * 8)) n (Nat.le_refl _) (by unfold maxLen; omega) (size_madeCells _ _)
  rw [made_row] at h
  refine ⟨by rw [List.length_replicate]; exact h, fun x hx => ?_⟩
  rw [List.eq_of_mem_replicate hx]
  exact Kids.nil _ _ _
theorem alloc_below {w a : World} (h : Below w.heap.size w a) (o : Obj) : Below w.heap.size w (a.alloc o) := h.alloc h.size o
theorem set_map (L : List (Pat × Value)) (kids : List Pat) (k : Nat) (p : Pat) (v : Value) (hl : L.length = kids.length) (hk : k < kids.length) (hp : p = kids[k]) (h : (L.map Prod.fst).take k = kids.take k) : ((L.set k (p, v)).map Prod.fst).take (k + 1) = kids.take (k + 1) := by
  rw [List.take_succ_eq_append_getElem (by simp; omega), List.take_succ_eq_append_getElem hk, ← h, ← hp]
  congr 1
  · rw [← List.map_take, ← List.map_take, List.take_set_of_le (Nat.le_refl _)]
  · simp
set_option maxHeartbeats 4000000 in
theorem copies_any : ∀ (n : Nat) (kids : List Pat) (ks : Value) (w : World), Pat.sizes kids < n → n ≤ 100000 → Kids w kids ks →
    Calls Tryz.prog 130 #[ks] w fun e w' => ∃ js, e = .returned js ∧ KidsN w' w.heap.size kids js ∧ Below w.heap.size w w' := by
  intro n
  induction n with
  | zero => intro kids ks w h; omega
  | succ n ih =>
    intro kids ks w hn hmax hk
    have hlen := length_sizes kids
    have IH := Lib.hid ih
    clear ih
    obtain ⟨a, cap, rfl⟩ := hk.len
    by_cases h0 : kids.length = 0
    · obtain rfl := List.length_eq_zero_iff.1 h0
      go_enter Tryz.func130, Tryz.ntmps130
      go_wp2_with fail
      go_ret
      exact ⟨_, rfl, Kids.nil _ _ _, Below.refl _ _⟩
    · have hmk := make_nodes kids.length (by omega)
      have HSM : Hid (∀ k (h : k < kids.length), kids[k].size ≤ n) := fun k h => by have := size_kid kids k h; omega
      obtain ⟨b, o, cap', e, hr⟩ := hk.row (by omega)
      cases e
      have hsm : kids.length < 100000 := by omega
      clear hn hlen
      have hb0 : ((kids.length : Int) == 0) = false := by rw [beq_eq_false_iff_ne]; omega
      go_enter Tryz.func130, Tryz.ntmps130
      go_wp2_with fail
      clear hmk hb0
      go_loopw [14] (fun i wr => ∃ (k : Nat) (L : List (Pat × Value)), k ≤ kids.length ∧ i = .int .i64 k ∧ L.length = kids.length ∧ Hid ((L.map Prod.fst).take k = kids.take k) ∧ NRow wr w.heap.size (.slice (some ⟨w.heap.size, 0, none⟩) kids.length kids.length) L ∧ Below w.heap.size w wr) (fun i _ => kids.length - (intOf i).toNat)
      case atStart => exact ⟨0, _, by omega, rfl, by simp, rfl, NRow.made w kids.length (by omega), (Below.refl _ _).alloc (Nat.le_refl _) _⟩
      case round =>
        obtain ⟨k, L, hkl, rfl, hL, HL, hrow, hbw⟩ := hrel
        have hbl : w.heap.size < wr.heap.size := (hrow.1.lt w.heap.size rfl).2
        by_cases hlt : k < kids.length
        · obtain ⟨ks', hks, e0, e1, e2, e3, e4, e5, e6, e7⟩ := ((hr.below hbw).at k hlt).load
          have HS1 := Lib.hid (HSM.out k hlt)
          have HP : Hid (∀ v, ((L.set k (kids[k], v)).map Prod.fst).take (k + 1) = kids.take (k + 1)) := fun v => set_map L kids k _ v hL hlt rfl HL.out
          generalize kids[k] = p' at *
          obtain ⟨ak, ck, rfl⟩ := hks.len
          have hal : Below wr.heap.size wr (wr.alloc (.cells #[.int .i64 p'.op, .int .u64 (wd p'.set 0), .int .u64 (wd p'.set 1), .int .u64 (wd p'.set 2), .int .u64 (wd p'.set 3), .int .i64 p'.lo, .int .i64 p'.hi, .slice ak p'.kids.length ck] 28)) := (Below.refl _ _).alloc (Nat.le_refl _) _
          have hbx0 := Box.new wr #[.int .i64 p'.op, .int .u64 (wd p'.set 0), .int .u64 (wd p'.set 1), .int .u64 (wd p'.set 2), .int .u64 (wd p'.set 3), .int .i64 p'.lo, .int .i64 p'.hi, .slice ak p'.kids.length ck] rfl
          have hks0 := hks.below hal
          have hrow0 := hrow.below hal
          go_wp2_with (go_at_call 130; refine (IH.out p'.kids _ _ (by have := size_eq p'; have := HS1.out; omega) (by omega) hks0).mono ?_; rintro e w2 ⟨js, rfl, hj2, hb2⟩; obtain ⟨a2, c2, rfl⟩ := hj2.kids.len; have hbx2 := hbx0.below hb2; have hrow2 := hrow0.below hb2; obtain ⟨z0, z1, z2, z3, z4, z5, z6, z7⟩ := hbx2.cells; have q7 := hbx2.free 7; obtain ⟨r0, r1, r2, r3, r4, r5, r6, r7⟩ := hrow2.load hL k (by omega); have rf := hrow2.free hL)
          go_roundw
          case rel =>
            have hbB : Below wr.heap.size wr (w2.setCell ⟨wr.heap.size, 7, none⟩ (.slice a2 p'.kids.length c2)) := (below_step hal hb2).setCell (p := ⟨wr.heap.size, 7, none⟩) (Nat.le_refl _) _
            have hsz : (wr.alloc (.cells #[.int .i64 p'.op, .int .u64 (wd p'.set 0), .int .u64 (wd p'.set 1), .int .u64 (wd p'.set 2), .int .u64 (wd p'.set 3), .int .i64 p'.lo, .int .i64 p'.hi, .slice ak p'.kids.length ck] 28)).heap.size = wr.heap.size + 1 := World.size_alloc _ _
            obtain ⟨h1, h2⟩ := (hrow.below hbB).set hL (i := k) (by omega) (p := p') ((hj2.set1 (b := wr.heap.size) (i := 7) (by omega) (.slice a2 p'.kids.length c2)).masked (by omega) (fun b e => by cases e; omega))
            exact ⟨k + 1, L.set k (p', .slice a2 p'.kids.length c2), by omega, num_succ k, by simpa using hL, HP.out _, h1, (below_step hbw hbB).grown h2 (by have := (below_step hbw hbB).size; omega) (fun j ej => by cases ej; exact Nat.le_refl _)⟩
          case measure => simp [intOf]; omega
        · have hke : k = kids.length := by omega
          have HK : Hid (KidsN wr w.heap.size kids (.slice (some ⟨w.heap.size, 0, none⟩) kids.length kids.length)) := by
            have h1 := hrow.kidsN
            have h2 := HL.out
            rw [hke, List.take_length, List.take_of_length_le (by simp; omega)] at h2
            rw [h2] at h1; exact h1
          clear hke
          go_wp2_with fail
          go_ret
          exact ⟨_, rfl, HK.out, hbw⟩
set_option maxHeartbeats 1000000 in
theorem node_any (op : Int) (kids : List Pat) (ks : Value) (w : World) (hs : Pat.sizes kids < 99999) (hk : Kids w kids ks) :
    Calls Tryz.prog 125 #[.int .i64 op, ks] w fun e w' => ∃ js, e = .returned (.agg #[.int .i64 (Pat.mk op 0 0 0 kids).op, .int .u64 (wd (Pat.mk op 0 0 0 kids).set 0), .int .u64 (wd (Pat.mk op 0 0 0 kids).set 1), .int .u64 (wd (Pat.mk op 0 0 0 kids).set 2), .int .u64 (wd (Pat.mk op 0 0 0 kids).set 3), .int .i64 (Pat.mk op 0 0 0 kids).lo, .int .i64 (Pat.mk op 0 0 0 kids).hi, js]) ∧ KidsN w' w.heap.size kids js ∧ Below w.heap.size w w' := by
  obtain ⟨a, cap, rfl⟩ := hk.len
  have hal := (Below.refl w.heap.size w).alloc (Nat.le_refl _) (.cells #[.int .i64 0, .int .u64 0, .int .u64 0, .int .u64 0, .int .u64 0, .int .i64 0, .int .i64 0, .slice none 0 0] 28)
  have hk0 := hk.below hal
  have hbx0 := Box.new w #[.int .i64 0, .int .u64 0, .int .u64 0, .int .u64 0, .int .u64 0, .int .i64 0, .int .i64 0, .slice none 0 0] rfl
  go_enter Tryz.func125, Tryz.ntmps125
  go_wp2_with (go_at_call 130; refine (copies_any 99999 kids _ _ hs (by omega) hk0).mono ?_; rintro e w2 ⟨js, rfl, hj2, hb2⟩; obtain ⟨a2, c2, rfl⟩ := hj2.kids.len; have hbx2 := hbx0.below hb2; obtain ⟨z0, z1, z2, z3, z4, z5, z6, z7⟩ := hbx2.cells; obtain ⟨q0, q1, q2, q3, q4, q5, q6, q7⟩ := hbx2.frees)
  refine bodyPost_ret (v := (.agg #[.int .i64 (Pat.mk op 0 0 0 kids).op, .int .u64 (wd (Pat.mk op 0 0 0 kids).set 0), .int .u64 (wd (Pat.mk op 0 0 0 kids).set 1), .int .u64 (wd (Pat.mk op 0 0 0 kids).set 2), .int .u64 (wd (Pat.mk op 0 0 0 kids).set 3), .int .i64 (Pat.mk op 0 0 0 kids).lo, .int .i64 (Pat.mk op 0 0 0 kids).hi, .slice a2 kids.length c2])) (by simp [results, Tryz.results125, go_sem, Pat.op, Pat.set, Pat.lo, Pat.hi, wd_none, *]) rfl ⟨_, rfl, ?_, ?_⟩
  · exact (hj2.set8 (by simp) _ _ _ _ _ _ _ _).mono (by simp)
  · exact below_set8 (below_step hal hb2) (Nat.le_refl _) _ _ _ _ _ _ _ _
set_option maxHeartbeats 1000000 in
theorem set_any (s : BitVec 256) (w : World) :
    Calls Tryz.prog 119 #[(.agg #[.int .u64 (wd (s) 0), .int .u64 (wd (s) 1), .int .u64 (wd (s) 2), .int .u64 (wd (s) 3)])] w fun e w' => ∃ js, e = .returned (.agg #[.int .i64 (Pat.mk 0 s 0 0 []).op, .int .u64 (wd (Pat.mk 0 s 0 0 []).set 0), .int .u64 (wd (Pat.mk 0 s 0 0 []).set 1), .int .u64 (wd (Pat.mk 0 s 0 0 []).set 2), .int .u64 (wd (Pat.mk 0 s 0 0 []).set 3), .int .i64 (Pat.mk 0 s 0 0 []).lo, .int .i64 (Pat.mk 0 s 0 0 []).hi, js]) ∧ KidsN w' w.heap.size [] js ∧ Below w.heap.size w w' := by
  have hal2 := below2 w (.cells #[.int .u64 (wd s 0), .int .u64 (wd s 1), .int .u64 (wd s 2), .int .u64 (wd s 3)] 24) (.cells #[.int .i64 0, .int .u64 0, .int .u64 0, .int .u64 0, .int .u64 0, .int .i64 0, .int .i64 0, .slice none 0 0] 28)
  have hbx0 := (Box.new (w.alloc (.cells #[.int .u64 (wd s 0), .int .u64 (wd s 1), .int .u64 (wd s 2), .int .u64 (wd s 3)] 24)) #[.int .i64 0, .int .u64 0, .int .u64 0, .int .u64 0, .int .u64 0, .int .i64 0, .int .i64 0, .slice none 0 0] (n := w.heap.size + 1) (by simp))
  have hs0 := (SetAt.new w s).alloc (.cells #[.int .i64 0, .int .u64 0, .int .u64 0, .int .u64 0, .int .u64 0, .int .i64 0, .int .i64 0, .slice none 0 0] 28)
  go_enter Tryz.func119, Tryz.ntmps119
  go_wp2_with (go_at_call 125; refine (node_any 0 [] _ _ (by simp [Pat.sizes]) (Kids.nil _ _ _)).mono ?_; rintro e w2 ⟨js, rfl, hj2, hb2⟩; obtain ⟨a2, c2, rfl⟩ := hj2.kids.len; have hl2 := (hbx0.below hb2).lt; have hls := (hs0.grown hb2).lt; obtain ⟨z0, z1, z2, z3, z4, z5, z6, z7⟩ := (hbx0.below hb2).cells; obtain ⟨q0, q1, q2, q3, q4, q5, q6, q7⟩ := (hbx0.below hb2).frees; obtain ⟨s0, s1, s2, s3⟩ := (hs0.grown hb2).cells)
  refine bodyPost_ret (v := (.agg #[.int .i64 (Pat.mk 0 s 0 0 []).op, .int .u64 (wd (Pat.mk 0 s 0 0 []).set 0), .int .u64 (wd (Pat.mk 0 s 0 0 []).set 1), .int .u64 (wd (Pat.mk 0 s 0 0 []).set 2), .int .u64 (wd (Pat.mk 0 s 0 0 []).set 3), .int .i64 (Pat.mk 0 s 0 0 []).lo, .int .i64 (Pat.mk 0 s 0 0 []).hi, .slice a2 0 c2])) (by simp [results, Tryz.results119, go_sem, Pat.op, Pat.set, Pat.lo, Pat.hi, *]) rfl ⟨_, rfl, Kids.nil _ _ _, ?_⟩
  have hb3 := below_set8 (b := w.heap.size + 1) (below_step hal2 hb2) (by omega) (.int .i64 (Pat.mk 0 (0#256) 0 0 []).op) (.int .u64 (wd s 0)) (.int .u64 (wd s 1)) (.int .u64 (wd s 2)) (.int .u64 (wd s 3)) (.int .i64 (Pat.mk 0 (0#256) 0 0 []).lo) (.int .i64 (Pat.mk 0 (0#256) 0 0 []).hi) (.slice a2 0 c2)
  exact hb3.alloc hb3.size _
end Go.Proofs.YtkpfpegjapddfaaGreatDoor
