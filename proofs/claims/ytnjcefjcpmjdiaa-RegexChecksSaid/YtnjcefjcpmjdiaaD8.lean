/- Contracts of homographref02: Lit, Back. -/
import Derived.Test.YtnjcefjcpmjdiaaD4
import Derived.Test.YtnjcefjcpmjdiaaD0
set_option maxRecDepth 20000
namespace Go.Proofs.Ytnjcefjcpmjdiaa
open Go.RowKit

/-- The pattern of one byte. -/
def byteP (c : UInt8) : Pat := .mk 0 (put 0 c.toNat) 0 0 []
def litP (s : ByteArray) : Pat := .mk 1 0 0 0 (s.data.toList.map byteP)
theorem rwith_zero (b : Nat) (hb : b < 256) (w : World) :
    Calls Try.prog 35 #[.agg #[.int .u64 0, .int .u64 0, .int .u64 0, .int .u64 0], .int .u8 b] w fun e w' => e = .returned (.agg #[.int .u64 (wd (put 0 b) 0), .int .u64 (wd (put 0 b) 1), .int .u64 (wd (put 0 b) 2), .int .u64 (wd (put 0 b) 3)]) ∧ Below w.heap.size w w' := by
  have := rwith_any 0 b hb w
  rw [wd_zero, wd_zero, wd_zero, wd_zero] at this
  exact this
/-- The zero node's cells. -/
def z8 : Array Value := #[.int .i64 0, .int .u64 0, .int .u64 0, .int .u64 0, .int .u64 0, .int .i64 0, .int .i64 0, .slice none 0 0]
set_option maxHeartbeats 2000000 in
theorem rlit_any (s : ByteArray) (w : World) (hlen : s.size ≤ 1000) :
    Calls Try.prog 12 #[.string s] w fun e w' => ∃ ks, e = .returned (.agg #[.int .i64 (litP s).op, .int .u64 (wd (litP s).set 0), .int .u64 (wd (litP s).set 1), .int .u64 (wd (litP s).set 2), .int .u64 (wd (litP s).set 3), .int .i64 (litP s).lo, .int .i64 (litP s).hi, ks]) ∧ KidsN w' w.heap.size (litP s).kids ks ∧ Below w.heap.size w w' := by
  obtain ⟨i0, hi, hy0, hy1, hy2⟩ := info_parts infoNode
  go_enter Try.func12, Try.ntmps12
  go_wp2_with fail
  go_loopw [3, 4] (fun v i wr => ∃ (L : List (Pat × Value)), L.length ≤ s.size ∧ i = .int .i64 L.length ∧ Hid (L.map Prod.fst = (s.data.toList.take L.length).map byteP) ∧ NRow wr (w.heap.size + 1) v L ∧ Box wr w.heap.size z8 ∧ Below w.heap.size w wr) (fun _ i _ => s.size - (intOf i).toNat)
  case atStart => exact ⟨[], by simp, rfl, rfl, NRow.nil _ _, Box.new _ _ rfl, (Below.refl _ _).alloc (Nat.le_refl _) _⟩
  case round =>
    obtain ⟨L, hk, rfl, HLm, hrow, hz, hbw⟩ := hrel
    have hls := hz.lt
    obtain ⟨a, cap, rfl⟩ := hrow.form
    by_cases hlt : L.length < s.size
    · have HT : Hid ((s.data.toList.take (L.length + 1)).map byteP = (s.data.toList.take L.length).map byteP ++ [byteP s[L.length]]) := by rw [Hid, take_snoc s _ hlt]; simp
      go_wp2_with (first
        | (go_at_call 35; refine (rwith_zero _ (UInt8.toNat_lt _) _).mono ?_; rintro e w1 ⟨rfl, hb1⟩)
        | (go_at_call 15; refine (rset_any _ _).mono ?_; rintro e w2 ⟨rfl, hb2⟩; have hrow2 := (hrow.below hb1).below hb2; have hz2 := (hz.below hb1).below hb2; have hlz := hz2.lt)
        | (at_builtin; refine wpList_append_own_at _ rfl _ _ 26 rfl (w.heap.size + 1) 28 i0 (.agg #[.int .i64 0, .int .u64 0, .int .u64 0, .int .u64 0, .int .u64 0, .int .i64 0, .int .i64 0, .slice none 0 0]) 8 80 Try.underlying26 hi hy0 hy1 hy2 rfl (by decide) _ _ _ rfl (hrow2.1.alloc _) ⟨w2.heap.size, 0, none⟩ 1 1 [.int .i64 (byteP s[L.length]).op, .int .u64 (wd (byteP s[L.length]).set 0), .int .u64 (wd (byteP s[L.length]).set 1), .int .u64 (wd (byteP s[L.length]).set 2), .int .u64 (wd (byteP s[L.length]).set 3), .int .i64 (byteP s[L.length]).lo, .int .i64 (byteP s[L.length]).hi, .slice none 0 0] rfl rfl (cell_eight_new _ _ _ _) (by simp [Value.oneCell']) (by unfold maxLen; omega) (by omega) (by simp; omega) ?_; intro v' w3 hown' hgrow _ hat))
      go_roundw
      case rel =>
        have hbn : Below w2.heap.size w2 (w2.alloc (.cells #[.int .i64 (byteP s[L.length]).op, .int .u64 (wd (byteP s[L.length]).set 0), .int .u64 (wd (byteP s[L.length]).set 1), .int .u64 (wd (byteP s[L.length]).set 2), .int .u64 (wd (byteP s[L.length]).set 3), .int .i64 (byteP s[L.length]).lo, .int .i64 (byteP s[L.length]).hi, .slice none 0 0] 28)) := (Below.refl _ _).alloc (Nat.le_refl _) _
        have hr3 := hrow2.below hbn
        refine ⟨L ++ [(byteP s[L.length], .slice none 0 0)], by simp; omega, by simp, ?_, hr3.snoc hown' hgrow hat (Kids.nil _ _ _), (hz2.alloc _).grown hgrow (own_not hr3.1 (by omega)), ?_⟩
        · rw [Hid, List.length_append, List.map_append, HLm.out]; exact HT.out.symm
        · have h1 := hbw.trans (hb1.mono hbw.size)
          have h2 := h1.trans (hb2.mono h1.size)
          exact below_grown (h2.trans (hbn.mono h2.size)) hr3.1 hgrow (by omega)
      case measure => simp [intOf]; omega
    · have hLs : L.length = s.size := by omega
      have hK : KidsN wr (w.heap.size + 1) (litP s).kids (.slice a L.length cap) := by
        have := hrow.kidsN
        rw [HLm.out, hLs, List.take_of_length_le (by simp)] at this
        rw [hLs]; exact this
      have HK := Lib.hid hK
      clear hK hLs
      unfold z8 at hz
      go_wp2_with (go_at_call 17; refine (rmany_any 1 _ (litP s).kids _ HK.out.kids).mono ?_; rintro e w2 ⟨rfl, hb2⟩; obtain ⟨c0, c1, c2, c3, c4, c5, c6, c7⟩ := (hz.below hb2).cells; obtain ⟨f0, f1, f2, f3, f4, f5, f6, f7⟩ := (hz.below hb2).frees)
      refine bodyPost_ret (v := (.agg #[.int .i64 (litP s).op, .int .u64 (wd (litP s).set 0), .int .u64 (wd (litP s).set 1), .int .u64 (wd (litP s).set 2), .int .u64 (wd (litP s).set 3), .int .i64 (litP s).lo, .int .i64 (litP s).hi, .slice a L.length cap])) (by simp [results, Try.results12, go_sem, litP, Pat.op, Pat.set, Pat.lo, Pat.hi, wd_none, *]) rfl ⟨_, rfl, ?_, ?_⟩
      · exact ((HK.out.below hb2).set8 (by omega) _ _ _ _ _ _ _ _).mono (by omega)
      · exact below_set8 (hbw.trans (hb2.mono hbw.size)) (by omega) _ _ _ _ _ _ _ _
theorem back_kids_len (p : Pat) : p.back.kids.length = p.kids.length := by
  rw [back_eq, kids_mk]; cases p.op == 1 <;> simp
theorem back_take_no (p : Pat) (h : (p.op == 1) = false) (k : Nat) (hk : k < p.kids.length) : p.back.kids.take (k + 1) = p.back.kids.take k ++ [p.kids[k].back] := by
  have hl := back_kids_len p
  rw [List.take_succ_eq_append_getElem (by omega)]
  congr 2
  simp only [back_eq p, kids_mk, h, cond_false, List.getElem_map]
theorem back_take_yes (p : Pat) (h : (p.op == 1) = true) (k : Nat) (hk : k < p.kids.length) (j : Nat) (hj : j < p.kids.length) (e : j = p.kids.length - 1 - k) : p.back.kids.take (k + 1) = p.back.kids.take k ++ [p.kids[j].back] := by
  have hl := back_kids_len p
  subst e
  rw [List.take_succ_eq_append_getElem (by omega)]
  congr 2
  simp only [back_eq p, kids_mk, h, cond_true, List.getElem_reverse, List.getElem_map, List.length_map]
theorem sub_idx (n k : Nat) (h : k < n) : ((n : Int) - 1 - (k : Int)) = ((n - 1 - k : Nat) : Int) := by omega
set_option maxHeartbeats 4000000 in
theorem rback_any : ∀ (n : Nat) (p : Pat) (ks : Value) (w : World), p.size < n → n ≤ 100000 → Kids w p.kids ks →
    Calls Try.prog 30 #[(.agg #[.int .i64 p.op, .int .u64 (wd p.set 0), .int .u64 (wd p.set 1), .int .u64 (wd p.set 2), .int .u64 (wd p.set 3), .int .i64 p.lo, .int .i64 p.hi, ks])] w fun e w' => ∃ ks', e = .returned (.agg #[.int .i64 p.back.op, .int .u64 (wd p.back.set 0), .int .u64 (wd p.back.set 1), .int .u64 (wd p.back.set 2), .int .u64 (wd p.back.set 3), .int .i64 p.back.lo, .int .i64 p.back.hi, ks']) ∧ KidsN w' w.heap.size p.back.kids ks' ∧ Below w.heap.size w w' := by
  intro n
  induction n with
  | zero => intro p ks w h; omega
  | succ n ih =>
    intro p ks w hn hmax hk
    have hse := size_eq p
    have hlen := length_sizes p.kids
    have IH := Lib.hid ih
    clear ih
    obtain ⟨a, cap, rfl⟩ := hk.len
    obtain ⟨i0, hi, hy0, hy1, hy2⟩ := info_parts infoNode
    have HSM : Hid (∀ k (h : k < p.kids.length), p.kids[k].size < n) := fun k h => by have := size_kid p.kids k h; omega
    have hsm : p.kids.length < 100000 := by omega
    have HBK : Hid (p.back.op = p.op ∧ p.back.set = p.set ∧ p.back.lo = p.lo ∧ p.back.hi = p.hi) := by rw [Hid, back_eq]; exact ⟨rfl, rfl, rfl, rfl⟩
    have HBL := Lib.hid (back_kids_len p)
    have HN := Lib.hid (back_take_no p)
    have HY := Lib.hid (back_take_yes p)
    generalize hbb : p.back = pb at *
    generalize hkk : p.kids = kids at *
    clear hse hlen hkk hbb
    cases hb1 : p.op == 1
    · have HN1 := Lib.hid (HN.out hb1)
      clear HN HY
      go_enter Try.func30, Try.ntmps30
      go_wp2_with fail
      go_loopw [3, 4] (fun v i wr => ∃ (L : List (Pat × Value)), L.length ≤ kids.length ∧ i = .int .i64 L.length ∧ Hid (L.map Prod.fst = pb.kids.take L.length) ∧ NRow wr (w.heap.size + 1 + 1) v L ∧ Box wr w.heap.size #[.int .i64 p.op, .int .u64 (wd p.set 0), .int .u64 (wd p.set 1), .int .u64 (wd p.set 2), .int .u64 (wd p.set 3), .int .i64 p.lo, .int .i64 p.hi, .slice a kids.length cap] ∧ Box wr (w.heap.size + 1) z8 ∧ Below w.heap.size w wr) (fun _ i _ => kids.length - (intOf i).toNat)
      case atStart => exact ⟨[], by simp, rfl, rfl, NRow.nil _ _, (Box.new _ _ rfl).alloc _, Box.new _ _ (by simp), below2 _ _ _⟩
      case round =>
        obtain ⟨L, hkl, rfl, HL, hrow, hx, hz, hbw⟩ := hrel
        obtain ⟨a', cap', rfl⟩ := hrow.form
        have hlz := hz.lt
        obtain ⟨c0, c1, c2, c3, c4, c5, c6, c7⟩ := hx.cells
        by_cases hlt : L.length < kids.length
        · obtain ⟨b1, o1, cc1, e1, hr1⟩ := hk.row (by omega)
          cases e1
          obtain ⟨ks', hks, e0, e1, e2, e3, e4, e5, e6, e7⟩ := ((hr1.below hbw).at L.length hlt).load
          have HS1 := Lib.hid (HSM.out _ hlt)
          have HT := Lib.hid (HN1.out _ hlt)
          generalize kids[L.length] = p' at *
          go_wp2_with (first
            | (go_at_call 30; refine (IH.out p' ks' _ HS1.out (by omega) hks).mono ?_; rintro e w2 ⟨ks2, rfl, hk2, hb2⟩; obtain ⟨a2, cap2, rfl⟩ := hk2.kids.len; have hrow2 := hrow.below hb2; have hx2 := hx.below hb2; have hz2 := hz.below hb2; have hlz2 := hz2.lt)
            | (at_builtin; refine wpList_append_own_at _ rfl _ _ 26 rfl (w.heap.size + 1 + 1) 28 i0 (.agg #[.int .i64 0, .int .u64 0, .int .u64 0, .int .u64 0, .int .u64 0, .int .i64 0, .int .i64 0, .slice none 0 0]) 8 80 Try.underlying26 hi hy0 hy1 hy2 rfl (by decide) _ _ _ rfl (hrow2.1.alloc _) ⟨w2.heap.size, 0, none⟩ 1 1 [.int .i64 p'.back.op, .int .u64 (wd p'.back.set 0), .int .u64 (wd p'.back.set 1), .int .u64 (wd p'.back.set 2), .int .u64 (wd p'.back.set 3), .int .i64 p'.back.lo, .int .i64 p'.back.hi, .slice a2 p'.back.kids.length cap2] rfl rfl (cell_eight_new _ _ _ _) (by simp [Value.oneCell']) (by unfold maxLen; omega) (by omega) (by simp; omega) ?_; intro v' w3 hown' hgrow _ hat))
          go_roundw
          case rel =>
            have hbn : Below w2.heap.size w2 (w2.alloc (.cells #[.int .i64 p'.back.op, .int .u64 (wd p'.back.set 0), .int .u64 (wd p'.back.set 1), .int .u64 (wd p'.back.set 2), .int .u64 (wd p'.back.set 3), .int .i64 p'.back.lo, .int .i64 p'.back.hi, .slice a2 p'.back.kids.length cap2] 28)) := (Below.refl _ _).alloc (Nat.le_refl _) _
            have hr3 := hrow2.below hbn
            refine ⟨L ++ [(p'.back, .slice a2 p'.back.kids.length cap2)], by simp; omega, by simp, ?_, hr3.snoc hown' hgrow hat ((hk2.below hbn).masked (by omega) (fun b e => (hrow.1.lt b e).2)), (hx2.alloc _).grown hgrow (own_not hr3.1 (by omega)), (hz2.alloc _).grown hgrow (own_not hr3.1 (by omega)), ?_⟩
            · rw [Hid, List.length_append, List.map_append, HL.out]; exact HT.out.symm
            · have h2 := hbw.trans (hb2.mono hbw.size)
              exact below_grown (h2.trans (hbn.mono h2.size)) hr3.1 hgrow (by omega)
          case measure => simp [intOf]; omega
        · have hLs : L.length = pb.kids.length := by have := HBL.out; omega
          have hK : KidsN wr (w.heap.size + 1 + 1) pb.kids (.slice a' L.length cap') := by
            have := hrow.kidsN
            rw [HL.out, hLs, List.take_length] at this
            rw [hLs]; exact this
          have HK := Lib.hid hK
          clear hK hLs
          obtain ⟨f0, f1, f2, f3, f4, f5, f6, f7⟩ := hx.frees
          unfold z8 at hz
          obtain ⟨d0, d1, d2, d3, d4, d5, d6, d7⟩ := hz.cells
          obtain ⟨g0, g1, g2, g3, g4, g5, g6, g7⟩ := hz.frees
          go_wp2_with fail
          refine bodyPost_ret (v := (.agg #[.int .i64 p.op, .int .u64 (wd p.set 0), .int .u64 (wd p.set 1), .int .u64 (wd p.set 2), .int .u64 (wd p.set 3), .int .i64 p.lo, .int .i64 p.hi, .slice a' L.length cap'])) (by simp [results, Try.results30, go_sem, *]) rfl ⟨.slice a' L.length cap', ?_, ((HK.out.set1 (by omega) _).set8 (by omega) _ _ _ _ _ _ _ _).mono (by omega), below_set8 (hbw.setCell (p := ⟨w.heap.size, 7, none⟩) (Nat.le_refl _) _) (by omega) _ _ _ _ _ _ _ _⟩
          obtain ⟨q1, q2, q3, q4⟩ := HBK.out
          rw [q1, q2, q3, q4]
    · have HN1 := Lib.hid (HY.out hb1)
      clear HN HY
      go_enter Try.func30, Try.ntmps30
      go_wp2_with fail
      go_loopw [3, 4] (fun v i wr => ∃ (L : List (Pat × Value)), L.length ≤ kids.length ∧ i = .int .i64 L.length ∧ Hid (L.map Prod.fst = pb.kids.take L.length) ∧ NRow wr (w.heap.size + 1 + 1) v L ∧ Box wr w.heap.size #[.int .i64 p.op, .int .u64 (wd p.set 0), .int .u64 (wd p.set 1), .int .u64 (wd p.set 2), .int .u64 (wd p.set 3), .int .i64 p.lo, .int .i64 p.hi, .slice a kids.length cap] ∧ Box wr (w.heap.size + 1) z8 ∧ Below w.heap.size w wr) (fun _ i _ => kids.length - (intOf i).toNat)
      case atStart => exact ⟨[], by simp, rfl, rfl, NRow.nil _ _, (Box.new _ _ rfl).alloc _, Box.new _ _ (by simp), below2 _ _ _⟩
      case round =>
        obtain ⟨L, hkl, rfl, HL, hrow, hx, hz, hbw⟩ := hrel
        obtain ⟨a', cap', rfl⟩ := hrow.form
        have hlz := hz.lt
        obtain ⟨c0, c1, c2, c3, c4, c5, c6, c7⟩ := hx.cells
        by_cases hlt : L.length < kids.length
        · obtain ⟨b1, o1, cc1, e1, hr1⟩ := hk.row (by omega)
          cases e1
          obtain ⟨j, hj⟩ : ∃ j, j = kids.length - 1 - L.length := ⟨_, rfl⟩
          have hjl : j < kids.length := by omega
          have hji : ((kids.length : Int) - 1 - (L.length : Int)) = (j : Int) := by omega
          have HT := Lib.hid (HN1.out _ hlt j hjl hj)
          clear hj
          obtain ⟨ks', hks, e0, e1, e2, e3, e4, e5, e6, e7⟩ := ((hr1.below hbw).at j hjl).load
          have HS1 := Lib.hid (HSM.out _ hjl)
          generalize kids[j] = p' at *
          go_wp2_with (first
            | (go_at_call 30; refine (IH.out p' ks' _ HS1.out (by omega) hks).mono ?_; rintro e w2 ⟨ks2, rfl, hk2, hb2⟩; obtain ⟨a2, cap2, rfl⟩ := hk2.kids.len; have hrow2 := hrow.below hb2; have hx2 := hx.below hb2; have hz2 := hz.below hb2; have hlz2 := hz2.lt)
            | (at_builtin; refine wpList_append_own_at _ rfl _ _ 26 rfl (w.heap.size + 1 + 1) 28 i0 (.agg #[.int .i64 0, .int .u64 0, .int .u64 0, .int .u64 0, .int .u64 0, .int .i64 0, .int .i64 0, .slice none 0 0]) 8 80 Try.underlying26 hi hy0 hy1 hy2 rfl (by decide) _ _ _ rfl (hrow2.1.alloc _) ⟨w2.heap.size, 0, none⟩ 1 1 [.int .i64 p'.back.op, .int .u64 (wd p'.back.set 0), .int .u64 (wd p'.back.set 1), .int .u64 (wd p'.back.set 2), .int .u64 (wd p'.back.set 3), .int .i64 p'.back.lo, .int .i64 p'.back.hi, .slice a2 p'.back.kids.length cap2] rfl rfl (cell_eight_new _ _ _ _) (by simp [Value.oneCell']) (by unfold maxLen; omega) (by omega) (by simp; omega) ?_; intro v' w3 hown' hgrow _ hat))
          go_roundw
          case rel =>
            have hbn : Below w2.heap.size w2 (w2.alloc (.cells #[.int .i64 p'.back.op, .int .u64 (wd p'.back.set 0), .int .u64 (wd p'.back.set 1), .int .u64 (wd p'.back.set 2), .int .u64 (wd p'.back.set 3), .int .i64 p'.back.lo, .int .i64 p'.back.hi, .slice a2 p'.back.kids.length cap2] 28)) := (Below.refl _ _).alloc (Nat.le_refl _) _
            have hr3 := hrow2.below hbn
            refine ⟨L ++ [(p'.back, .slice a2 p'.back.kids.length cap2)], by simp; omega, by simp, ?_, hr3.snoc hown' hgrow hat ((hk2.below hbn).masked (by omega) (fun b e => (hrow.1.lt b e).2)), (hx2.alloc _).grown hgrow (own_not hr3.1 (by omega)), (hz2.alloc _).grown hgrow (own_not hr3.1 (by omega)), ?_⟩
            · rw [Hid, List.length_append, List.map_append, HL.out]; exact HT.out.symm
            · have h2 := hbw.trans (hb2.mono hbw.size)
              exact below_grown (h2.trans (hbn.mono h2.size)) hr3.1 hgrow (by omega)
          case measure => simp [intOf]; omega
        · have hLs : L.length = pb.kids.length := by have := HBL.out; omega
          have hK : KidsN wr (w.heap.size + 1 + 1) pb.kids (.slice a' L.length cap') := by
            have := hrow.kidsN
            rw [HL.out, hLs, List.take_length] at this
            rw [hLs]; exact this
          have HK := Lib.hid hK
          clear hK hLs
          obtain ⟨f0, f1, f2, f3, f4, f5, f6, f7⟩ := hx.frees
          unfold z8 at hz
          obtain ⟨d0, d1, d2, d3, d4, d5, d6, d7⟩ := hz.cells
          obtain ⟨g0, g1, g2, g3, g4, g5, g6, g7⟩ := hz.frees
          go_wp2_with fail
          refine bodyPost_ret (v := (.agg #[.int .i64 p.op, .int .u64 (wd p.set 0), .int .u64 (wd p.set 1), .int .u64 (wd p.set 2), .int .u64 (wd p.set 3), .int .i64 p.lo, .int .i64 p.hi, .slice a' L.length cap'])) (by simp [results, Try.results30, go_sem, *]) rfl ⟨.slice a' L.length cap', ?_, ((HK.out.set1 (by omega) _).set8 (by omega) _ _ _ _ _ _ _ _).mono (by omega), below_set8 (hbw.setCell (p := ⟨w.heap.size, 7, none⟩) (Nat.le_refl _) _) (by omega) _ _ _ _ _ _ _ _⟩
          obtain ⟨q1, q2, q3, q4⟩ := HBK.out
          rw [q1, q2, q3, q4]
end Go.Proofs.Ytnjcefjcpmjdiaa
