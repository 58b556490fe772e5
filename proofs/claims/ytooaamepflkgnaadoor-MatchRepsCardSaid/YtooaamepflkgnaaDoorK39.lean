/- Texts that a proof rests on: A turned text is matched just by the turned pattern, and the empty text is matched just where Null says so. -/
import Derived.Test.YtooaamepflkgnaaDoorK38
import Derived.Test.YtooaamepflkgnaaDoorK33
import Derived.Test.YtooaamepflkgnaaDoorK34
import Derived.Deep.RegionHeld3
set_option maxRecDepth 100000
namespace Go.Proofs.YtooaamepflkgnaaDoor
open Go.RowKit

/-- The first bytes of a text, turned. -/
def turnTo (s : ByteArray) (k : Nat) : ByteArray := ⟨(s.data.toList.take k).reverse.toArray⟩
theorem turn_nil (s : ByteArray) : turnTo s 0 = ⟨#[]⟩ := rfl
theorem turn_step (s : ByteArray) (k : Nat) (h : k < s.size) : s.extract k (k + 1) ++ turnTo s k = turnTo s (k + 1) := by
  apply ByteArray.ext
  apply Array.ext'
  have h2 : k < s.data.toList.length := by simpa using h
  simp only [ByteArray.data_append, Array.toList_append, ByteArray.data_extract, Array.toList_extract, turnTo, List.take_succ_eq_append_getElem h2, List.reverse_append]
  have h3 : s.data[k]? = some (s.data[k]'h) := Array.getElem?_eq_getElem h
  simp [List.extract, List.take_one, List.head?_drop, h3]
theorem turn_size (s : ByteArray) (k : Nat) : (turnTo s k).size ≤ s.size := by
  show (turnTo s k).data.size ≤ s.data.toList.length
  rw [← Array.length_toList]
  simp only [turnTo, List.length_reverse, List.length_take]
  omega
theorem turn_turned (s : ByteArray) : Turned s (turnTo s s.size) := by
  have hl : (turnTo s s.size).data.toList = s.data.toList.reverse := by
    simp [turnTo, List.take_of_length_le]
  have hz : (turnTo s s.size).size = s.size := by
    show (turnTo s s.size).data.size = s.size
    rw [← Array.length_toList, hl, List.length_reverse]; rfl
  refine ⟨hz, fun i h h' => ?_⟩
  show (turnTo s s.size).data[s.size - 1 - i]'h' = s.data[i]'h
  have h3 : i < s.data.toList.length := by simpa using h
  have h4 : s.size - 1 - i < s.data.toList.reverse.length := by simp; show s.size - 1 - i < s.size; omega
  have e : (turnTo s s.size).data[s.size - 1 - i]'h' = s.data.toList.reverse[s.size - 1 - i]'h4 := by
    rw [← Array.getElem_toList]
    simp only [hl]
  rw [e, List.getElem_reverse, ← Array.getElem_toList]
  congr 1
  show s.data.toList.length - 1 - (s.size - 1 - i) = i
  have : s.data.toList.length = s.size := rfl
  omega
/-- Back, under the name of the turned pattern. -/
theorem rback_w (p pb : Pat) (h : p.back = pb) (a : Option Addr) (c : Nat) (w : World) (hs : p.size < 9999) (hk : Kids w p.kids (.slice a p.kids.length c)) : Calls Tryd.prog 16 #[(.agg #[.int .i64 p.op, .int .u64 (wd p.set 0), .int .u64 (wd p.set 1), .int .u64 (wd p.set 2), .int .u64 (wd p.set 3), .int .i64 p.lo, .int .i64 p.hi, .slice a p.kids.length c])] w fun e w' => ∃ a c, e = .returned (.agg #[.int .i64 pb.op, .int .u64 (wd pb.set 0), .int .u64 (wd pb.set 1), .int .u64 (wd pb.set 2), .int .u64 (wd pb.set 3), .int .i64 pb.lo, .int .i64 pb.hi, .slice a pb.kids.length c]) ∧ Kids w' pb.kids (.slice a pb.kids.length c) ∧ Below w.heap.size w w' := by
  subst h
  refine (rback_any 9999 p _ w hs (by omega) hk).mono ?_
  rintro e w' ⟨ks', rfl, hk2, hb⟩
  obtain ⟨a2, c2, rfl⟩ := hk2.kids.len
  exact ⟨a2, c2, rfl, hk2.kids, hb⟩
theorem rnull_w (p : Pat) (ks : Value) (w : World) (hs : p.size < 9999) (hok : p.ok = true) (hk : Kids w p.kids ks) : Calls Tryd.prog 17 #[(.agg #[.int .i64 p.op, .int .u64 (wd p.set 0), .int .u64 (wd p.set 1), .int .u64 (wd p.set 2), .int .u64 (wd p.set 3), .int .i64 p.lo, .int .i64 p.hi, ks])] w fun e w' => e = .returned (.bool p.nul) ∧ Below w.heap.size w w' := by
  rw [nul_rnul p hok]; exact rnull_any 9999 p ks w hs (by omega) hk
/-- Whole, where its answer is known. -/
theorem whole_w (s : ByteArray) (p : Pat) (r : Bool) (hr : r = true ↔ p.M s 0 s.size) (ks : Value) (w : World) (hf : Fine s p) (hk : Kids w p.kids ks) : Calls Tryd.prog 14 #[(.agg #[.int .i64 p.op, .int .u64 (wd p.set 0), .int .u64 (wd p.set 1), .int .u64 (wd p.set 2), .int .u64 (wd p.set 3), .int .i64 p.lo, .int .i64 p.hi, ks]), .string s] w fun e w' => e = .returned (.bool r) ∧ Below w.heap.size w w' := by
  refine (Whole_any s p ks w hf hk).mono ?_
  rintro e w' ⟨r', rfl, hr', hb⟩
  have : r' = r := by rw [Bool.eq_iff_iff, hr, hr']
  subst this
  exact ⟨rfl, hb⟩
theorem make_ok (code : ByteArray) (w : World) (hlen : code.size ≤ 12) : Calls Tryd.prog 8 #[.string code] w fun e w' => ∃ (q : Pat) (a : Option Addr) (n : Nat), e = .returned (.agg #[.int .i64 q.op, .int .u64 (wd q.set 0), .int .u64 (wd q.set 1), .int .u64 (wd q.set 2), .int .u64 (wd q.set 3), .int .i64 q.lo, .int .i64 q.hi, .slice a q.kids.length n]) ∧ Hid (q.num = true ∧ q.size ≤ 13 ∧ q.ok = true) ∧ Hid (Kids w' q.kids (.slice a q.kids.length n)) ∧ Hid (Below w.heap.size w w') := by
  refine (make_any code w (by omega)).mono ?_
  rintro e w' ⟨q, ks, rfl, hk, hs, ⟨ho, hn⟩, hb⟩
  obtain ⟨a, n, rfl⟩ := hk.len
  exact ⟨q, a, n, rfl, ⟨hn, by omega, ho⟩, hk, hb⟩
set_option maxHeartbeats 4000000 in
theorem back_law (a s : ByteArray) (w : World) : Calls Tryd.prog 5 #[.string a, .string s] w fun e w' => e = .returned (.bool true) ∧ Below w.heap.size w w' := by
  have HAW := Lib.hid (awake_any w)
  by_cases ha : a.size > 12
  · have hd : decide ((a.size : Int) > 12) = true := by simp; omega
    have hd2 : decide ((12 : Int) < a.size) = true := by simp; omega
    go_enter Tryd.func5, Tryd.ntmps5
    go_wp2_with (go_at_call 7; (with_reducible refine HAW.out.mono ?_); rintro e w2 ⟨rfl, hb2⟩)
    go_ret
    exact ⟨rfl, hb2⟩
  have hda : decide ((a.size : Int) > 12) = false := by simp; omega
  have hda2 : decide ((12 : Int) < a.size) = false := by simp; omega
  by_cases hs : s.size > 14
  · have hd : decide ((s.size : Int) > 14) = true := by simp; omega
    have hd2 : decide ((14 : Int) < s.size) = true := by simp; omega
    go_enter Tryd.func5, Tryd.ntmps5
    go_wp2_with (go_at_call 7; (with_reducible refine HAW.out.mono ?_); rintro e w2 ⟨rfl, hb2⟩)
    go_ret
    exact ⟨rfl, hb2⟩
  have hds : decide ((s.size : Int) > 14) = false := by simp; omega
  have hds2 : decide ((14 : Int) < s.size) = false := by simp; omega
  have hs90 : s.size ≤ 90 := by omega
  go_enter Tryd.func5, Tryd.ntmps5
  go_upto_region 6 with (go_at_call 7; (with_reducible refine HAW.out.mono ?_); rintro e w2 ⟨rfl, hb2⟩)
  have HB2 := Lib.hid hb2
  have HMA := Lib.hid (make_ok a w2 (by omega))
  clear hb2 hda hda2 hds hds2
  go_upto_region 7 with (go_at_call 8; (with_reducible refine HMA.out.mono ?_); rintro e w3 ⟨p, ap, np, rfl, HP, HKP, HB3⟩)
  obtain ⟨nx, hnx⟩ : ∃ nx, w3.heap.size = nx := ⟨_, rfl⟩
  obtain ⟨w4, hw4⟩ : ∃ w4, w3.alloc (.cells #[.int .i64 p.op, .int .u64 (wd p.set 0), .int .u64 (wd p.set 1), .int .u64 (wd p.set 2), .int .u64 (wd p.set 3), .int .i64 p.lo, .int .i64 p.hi, .slice ap p.kids.length np] 28) = w4 := ⟨_, rfl⟩
  have HX4 : Hid (BoxN nx p (.slice ap p.kids.length np) w4) := Lib.hid (by rw [← hw4]; exact BoxN.new HKP.out hnx)
  have HB4 : Hid (Below w.heap.size w w4) := Lib.hid (by
    have h1 := HB2.out.trans (HB3.out.mono HB2.out.size)
    exact h1.trans (by rw [← hw4]; exact (below_one w3 _).mono h1.size))
  rw [hw4, hnx]
  clear hw4 hnx
  go_wp2_with fail
  go_loopw [7, 8] (fun v i wr => ∃ (k : Nat), k ≤ s.size ∧ i = .int .i64 k ∧ v = .string (turnTo s k) ∧ Hid (Below w4.heap.size w4 wr)) (fun _ i _ => s.size - (intOf i).toNat)
  case atStart => exact ⟨0, by omega, rfl, rfl, Below.refl _ _⟩
  case round =>
    obtain ⟨k, hk, rfl, rfl, HBW⟩ := hrel
    by_cases hlt : k < s.size
    · have HZ := Lib.hid (turn_size s k)
      go_wp2_with fail
      · have := HZ.out
        exfalso
        omega
      exact ⟨⟨k + 1, by omega, by simp, by rw [turn_step s k hlt], HBW⟩, by simp [intOf]; omega⟩
    · obtain rfl : k = s.size := by omega
      have HXW : Hid (BoxN nx p (.slice ap p.kids.length np) wr) := Lib.hid (HX4.out.below HBW.out)
      have HBX := Lib.hid (HB4.out.trans (HBW.out.mono HB4.out.size))
      obtain ⟨t, ht⟩ : ∃ t, turnTo s s.size = t := ⟨_, rfl⟩
      have HT : Hid (Turned s t) := Lib.hid (by rw [← ht]; exact turn_turned s)
      rw [ht]
      clear ht HX4 HB4 HBW
      have hx : Box wr nx #[.int .i64 p.op, .int .u64 (wd p.set 0), .int .u64 (wd p.set 1), .int .u64 (wd p.set 2), .int .u64 (wd p.set 3), .int .i64 p.lo, .int .i64 p.hi, .slice ap p.kids.length np] := HXW.out.box
      have HK := Lib.hid HXW.out.kids
      have hlx := hx.lt
      obtain ⟨R, HR⟩ : ∃ R : Bool, Hid (R = true ↔ p.M s 0 s.size) := by
        classical
        exact ⟨decide (p.M s 0 s.size), by rw [Hid]; simp⟩
      obtain ⟨q, hq⟩ : ∃ q, p.back = q := ⟨_, rfl⟩
      have HPB := Lib.hid hq
      have HRB : Hid (R = true ↔ q.M t 0 t.size) := Lib.hid (by rw [← hq, HR.out]; exact back_whole HT.out HP.out.2.2)
      have HFP : Hid (∀ x : ByteArray, x.size ≤ 90 → Fine x p) := Lib.hid fun x h => ⟨h, HP.out.1, by have := HP.out.2.1; omega⟩
      have HFQ : Hid (Fine t q) := Lib.hid (by
        rw [← hq]
        exact ⟨by rw [HT.out.size]; exact hs90, by rw [back_num]; exact HP.out.1, by rw [back_size]; have := HP.out.2.1; omega⟩)
      obtain ⟨u, hu⟩ : ∃ u, p.nul = u := ⟨_, rfl⟩
      have HU := Lib.hid hu
      have HUM : Hid (u = true ↔ p.M ⟨#[]⟩ 0 (⟨#[]⟩ : ByteArray).size) := Lib.hid (by
        rw [← hu]
        exact (M_empty ⟨#[]⟩ p HP.out.1 0 (by omega) (by omega)).symm)
      have HSZ : Hid (p.size < 9999) := Lib.hid (by have := HP.out.2.1; omega)
      clear hq hu
      have CW1 : Hid (∀ W, Below wr.heap.size wr W → Calls Tryd.prog 14 #[(.agg #[.int .i64 p.op, .int .u64 (wd p.set 0), .int .u64 (wd p.set 1), .int .u64 (wd p.set 2), .int .u64 (wd p.set 3), .int .i64 p.lo, .int .i64 p.hi, .slice ap p.kids.length np]), .string s] W fun e w' => e = .returned (.bool R) ∧ Below W.heap.size W w') := Lib.hid fun W hb => whole_w s p R HR.out _ W (HFP.out s hs90) (HK.out.below hb)
      have CW3 : Hid (∀ W, Below wr.heap.size wr W → Calls Tryd.prog 14 #[(.agg #[.int .i64 p.op, .int .u64 (wd p.set 0), .int .u64 (wd p.set 1), .int .u64 (wd p.set 2), .int .u64 (wd p.set 3), .int .i64 p.lo, .int .i64 p.hi, .slice ap p.kids.length np]), .string ⟨#[]⟩] W fun e w' => e = .returned (.bool u) ∧ Below W.heap.size W w') := Lib.hid fun W hb => whole_w ⟨#[]⟩ p u HUM.out _ W (HFP.out _ (by decide)) (HK.out.below hb)
      have CB : Hid (∀ W, Below wr.heap.size wr W → Calls Tryd.prog 16 #[(.agg #[.int .i64 p.op, .int .u64 (wd p.set 0), .int .u64 (wd p.set 1), .int .u64 (wd p.set 2), .int .u64 (wd p.set 3), .int .i64 p.lo, .int .i64 p.hi, .slice ap p.kids.length np])] W fun e w' => ∃ a c, e = .returned (.agg #[.int .i64 q.op, .int .u64 (wd q.set 0), .int .u64 (wd q.set 1), .int .u64 (wd q.set 2), .int .u64 (wd q.set 3), .int .i64 q.lo, .int .i64 q.hi, .slice a q.kids.length c]) ∧ Hid (Kids w' q.kids (.slice a q.kids.length c)) ∧ Below W.heap.size W w') := Lib.hid fun W hb => rback_w p q HPB.out ap np W HSZ.out (HK.out.below hb)
      have CW2 : Hid (∀ W a c, Hid (Kids W q.kids (.slice a q.kids.length c)) → Calls Tryd.prog 14 #[(.agg #[.int .i64 q.op, .int .u64 (wd q.set 0), .int .u64 (wd q.set 1), .int .u64 (wd q.set 2), .int .u64 (wd q.set 3), .int .i64 q.lo, .int .i64 q.hi, .slice a q.kids.length c]), .string t] W fun e w' => e = .returned (.bool R) ∧ Below W.heap.size W w') := Lib.hid fun W a c hk => whole_w t q R HRB.out _ W HFQ.out hk.out
      have CN : Hid (∀ W, Below wr.heap.size wr W → Calls Tryd.prog 17 #[(.agg #[.int .i64 p.op, .int .u64 (wd p.set 0), .int .u64 (wd p.set 1), .int .u64 (wd p.set 2), .int .u64 (wd p.set 3), .int .i64 p.lo, .int .i64 p.hi, .slice ap p.kids.length np])] W fun e w' => e = .returned (.bool u) ∧ Below W.heap.size W w') := Lib.hid fun W hb => by rw [← HU.out]; exact rnull_w p _ W HSZ.out HP.out.2.2 (HK.out.below hb)
      have HX := Lib.hid hx
      obtain ⟨x0, x1, x2, x3, x4, x5, x6, x7⟩ := hx.cells
      clear hx HR HRB HFP HFQ HU HUM HSZ HPB HT HXW HAW HMA HB2 HB3 HKP
      go_upto_region 12 with fail
      rcases R with _ | _ <;> rcases u with _ | _
      all_goals
        go_region_held3 (fun W => W.cell? ⟨nx, 0, none⟩ = some (.int .i64 p.op) ∧ W.cell? ⟨nx, 1, none⟩ = some (.int .u64 (wd p.set 0)) ∧ W.cell? ⟨nx, 2, none⟩ = some (.int .u64 (wd p.set 1)) ∧ W.cell? ⟨nx, 3, none⟩ = some (.int .u64 (wd p.set 2)) ∧ W.cell? ⟨nx, 4, none⟩ = some (.int .u64 (wd p.set 3)) ∧ W.cell? ⟨nx, 5, none⟩ = some (.int .i64 p.lo) ∧ W.cell? ⟨nx, 6, none⟩ = some (.int .i64 p.hi) ∧ W.cell? ⟨nx, 7, none⟩ = some (.slice ap p.kids.length np) ∧ Below wr.heap.size wr W)
          (first | (with_reducible exact s8_keep hlx (by assumption) (by assumption)) | (with_reducible exact s8_start HX.out (Below.refl _ _).drew) | (with_reducible exact s8_start HX.out (Below.refl _ _)))
          (first
            | (go_at_call 16; (with_reducible refine (CB.out _ (s8_below (by assumption))).mono ?_); rintro e w8 ⟨a8, c8, rfl, hk8, hb8⟩)
            | (go_at_call 17; (with_reducible refine (CN.out _ (s8_below (by assumption))).mono ?_); rintro e w6 ⟨rfl, hb6⟩)
            | (go_at_call 14; first
              | ((with_reducible refine (CW1.out _ (s8_below (by assumption))).mono ?_); rintro e w6 ⟨rfl, hb6⟩)
              | ((with_reducible refine (CW2.out _ _ _ hk8).mono ?_); rintro e w6 ⟨rfl, hb6⟩)
              | ((with_reducible refine (CW3.out _ (s8_below (by assumption))).mono ?_); rintro e w6 ⟨rfl, hb6⟩)))
        all_goals
          have hfin := below_step HBX.out (s8_below (by assumption))
          go_wp2
          go_ret
          exact ⟨rfl, hfin⟩
end Go.Proofs.YtooaamepflkgnaaDoor
