/- Texts that a proof rests on: Contracts of homographref02: Set, Many, Rep, Size, Null. | Contracts of homographref02: Lit, Back. | A region of a function's text, taken out by a program. | Contract of homographref02.Make. | A region of homographref02.Make: in whatever order it is carried out. | A region of homographref02.Make: in whatever order it is carried out. | A region of homographref02.Make: in whatever order it is carried out. -/
import Derived.Test.YtpfhhdiipedklaaDoorK09
import Derived.Deep.RegionWith
import Derived.Test.YtpfhhdiipedklaaDoorK15
set_option maxRecDepth 20000
namespace Go.Proofs.YtpfhhdiipedklaaDoor
open Go.RowKit

set_option maxHeartbeats 400000 in
theorem rset_any (s : BitVec 256) (w : World) :
    Calls Tryd.prog 19 #[(.agg #[.int .u64 (wd (s) 0), .int .u64 (wd (s) 1), .int .u64 (wd (s) 2), .int .u64 (wd (s) 3)])] w fun e w' => e = .returned (.agg #[.int .i64 (Pat.mk 0 s 0 0 []).op, .int .u64 (wd (Pat.mk 0 s 0 0 []).set 0), .int .u64 (wd (Pat.mk 0 s 0 0 []).set 1), .int .u64 (wd (Pat.mk 0 s 0 0 []).set 2), .int .u64 (wd (Pat.mk 0 s 0 0 []).set 3), .int .i64 (Pat.mk 0 s 0 0 []).lo, .int .i64 (Pat.mk 0 s 0 0 []).hi, .slice none 0 0]) ∧ Below w.heap.size w w' := by
  go_enter Tryd.func19, Tryd.ntmps19
  go_wp2
  refine bodyPost_ret (v := (.agg #[.int .i64 (Pat.mk 0 s 0 0 []).op, .int .u64 (wd (Pat.mk 0 s 0 0 []).set 0), .int .u64 (wd (Pat.mk 0 s 0 0 []).set 1), .int .u64 (wd (Pat.mk 0 s 0 0 []).set 2), .int .u64 (wd (Pat.mk 0 s 0 0 []).set 3), .int .i64 (Pat.mk 0 s 0 0 []).lo, .int .i64 (Pat.mk 0 s 0 0 []).hi, .slice none 0 0])) (by simp [results, Tryd.results19, go_sem, Pat.op, Pat.set, Pat.lo, Pat.hi]) rfl ⟨rfl, ?_⟩
  exact ((Below.refl _ _).alloc (Nat.le_refl _) _).alloc (by simp) _
set_option maxHeartbeats 400000 in
theorem rmany_any (op : Int) (ks : Value) (kids : List Pat) (w : World) (hk : Kids w kids ks) :
    Calls Tryd.prog 18 #[.int .i64 op, ks] w fun e w' => e = .returned (.agg #[.int .i64 (Pat.mk op 0 0 0 kids).op, .int .u64 (wd (Pat.mk op 0 0 0 kids).set 0), .int .u64 (wd (Pat.mk op 0 0 0 kids).set 1), .int .u64 (wd (Pat.mk op 0 0 0 kids).set 2), .int .u64 (wd (Pat.mk op 0 0 0 kids).set 3), .int .i64 (Pat.mk op 0 0 0 kids).lo, .int .i64 (Pat.mk op 0 0 0 kids).hi, ks]) ∧ Below w.heap.size w w' := by
  obtain ⟨a, cap, rfl⟩ := hk.len
  go_enter Tryd.func18, Tryd.ntmps18
  go_wp2
  refine bodyPost_ret (v := (.agg #[.int .i64 (Pat.mk op 0 0 0 kids).op, .int .u64 (wd (Pat.mk op 0 0 0 kids).set 0), .int .u64 (wd (Pat.mk op 0 0 0 kids).set 1), .int .u64 (wd (Pat.mk op 0 0 0 kids).set 2), .int .u64 (wd (Pat.mk op 0 0 0 kids).set 3), .int .i64 (Pat.mk op 0 0 0 kids).lo, .int .i64 (Pat.mk op 0 0 0 kids).hi, .slice a kids.length cap])) (by simp [results, Tryd.results18, go_sem, Pat.op, Pat.set, Pat.lo, Pat.hi, wd_none]) rfl ⟨rfl, ?_⟩
  exact ((Below.refl _ _).alloc (Nat.le_refl _) _)
set_option maxHeartbeats 400000 in
theorem rmany_sl (op : Int) (a : Option Addr) (n cap : Nat) (kids : List Pat) (w : World) :
    Calls Tryd.prog 18 #[.int .i64 op, .slice a n cap] w fun e w' => e = .returned (.agg #[.int .i64 (Pat.mk op 0 0 0 kids).op, .int .u64 (wd (Pat.mk op 0 0 0 kids).set 0), .int .u64 (wd (Pat.mk op 0 0 0 kids).set 1), .int .u64 (wd (Pat.mk op 0 0 0 kids).set 2), .int .u64 (wd (Pat.mk op 0 0 0 kids).set 3), .int .i64 (Pat.mk op 0 0 0 kids).lo, .int .i64 (Pat.mk op 0 0 0 kids).hi, .slice a n cap]) ∧ Below w.heap.size w w' := by
  go_enter Tryd.func18, Tryd.ntmps18
  go_wp2
  refine bodyPost_ret (v := (.agg #[.int .i64 (Pat.mk op 0 0 0 kids).op, .int .u64 (wd (Pat.mk op 0 0 0 kids).set 0), .int .u64 (wd (Pat.mk op 0 0 0 kids).set 1), .int .u64 (wd (Pat.mk op 0 0 0 kids).set 2), .int .u64 (wd (Pat.mk op 0 0 0 kids).set 3), .int .i64 (Pat.mk op 0 0 0 kids).lo, .int .i64 (Pat.mk op 0 0 0 kids).hi, .slice a n cap])) (by simp [results, Tryd.results18, go_sem, Pat.op, Pat.set, Pat.lo, Pat.hi, wd_none]) rfl ⟨rfl, ?_⟩
  exact ((Below.refl _ _).alloc (Nat.le_refl _) _)
set_option maxHeartbeats 400000 in
theorem rrep_any (p : Pat) (ks : Value) (lo hi : Int) (w : World) (hk : Kids w p.kids ks) :
    Calls Tryd.prog 20 #[(.agg #[.int .i64 p.op, .int .u64 (wd p.set 0), .int .u64 (wd p.set 1), .int .u64 (wd p.set 2), .int .u64 (wd p.set 3), .int .i64 p.lo, .int .i64 p.hi, ks]), .int .i64 lo, .int .i64 hi] w fun e w' => ∃ ks', e = .returned (.agg #[.int .i64 (Pat.mk 3 0 lo hi [p]).op, .int .u64 (wd (Pat.mk 3 0 lo hi [p]).set 0), .int .u64 (wd (Pat.mk 3 0 lo hi [p]).set 1), .int .u64 (wd (Pat.mk 3 0 lo hi [p]).set 2), .int .u64 (wd (Pat.mk 3 0 lo hi [p]).set 3), .int .i64 (Pat.mk 3 0 lo hi [p]).lo, .int .i64 (Pat.mk 3 0 lo hi [p]).hi, ks']) ∧ Kids w' [p] ks' ∧ Below w.heap.size w w' := by
  have hk0 := hk
  obtain ⟨a, cap, rfl⟩ := hk.len
  go_enter Tryd.func20, Tryd.ntmps20
  go_wp2
  refine bodyPost_ret (v := (.agg #[.int .i64 (Pat.mk 3 0 lo hi [p]).op, .int .u64 (wd (Pat.mk 3 0 lo hi [p]).set 0), .int .u64 (wd (Pat.mk 3 0 lo hi [p]).set 1), .int .u64 (wd (Pat.mk 3 0 lo hi [p]).set 2), .int .u64 (wd (Pat.mk 3 0 lo hi [p]).set 3), .int .i64 (Pat.mk 3 0 lo hi [p]).lo, .int .i64 (Pat.mk 3 0 lo hi [p]).hi, .slice (some ⟨w.heap.size + 1 + 1, 0, none⟩) 1 1])) (by simp [results, Tryd.results20, go_sem, Pat.op, Pat.set, Pat.lo, Pat.hi, wd_none]) rfl ⟨_, rfl, ?_, ?_⟩
  · exact (hk0.below (below2 _ _ _)).one (by simp)
  · exact below3 _ _ _ _
theorem all_take (l : List Pat) (f : Pat → Bool) (k : Nat) (h : k < l.length) : (l.take (k + 1)).all f = ((l.take k).all f && f l[k]) := by
  rw [List.take_succ_eq_append_getElem h, List.all_append]; simp
theorem any_take (l : List Pat) (f : Pat → Bool) (k : Nat) (h : k < l.length) : (l.take (k + 1)).any f = ((l.take k).any f || f l[k]) := by
  rw [List.take_succ_eq_append_getElem h, List.any_append]; simp
theorem rnul_case (p : Pat) (a o : Bool) (ha : p.kids.all Pat.rnul = a) (ho : p.kids.any Pat.rnul = o) : p.rnul = (bif p.op == 1 then a else bif p.op == 4 then a else bif p.op == 2 then o else bif p.op == 3 then (p.lo == 0 || o) else bif p.op == 5 then !o else false) := by
  rw [rnul_eq, ha, ho]
end Go.Proofs.YtpfhhdiipedklaaDoor
set_option maxRecDepth 20000
namespace Go.Proofs.YtpfhhdiipedklaaDoor
open Go.RowKit

/-- The pattern of one byte. -/
def byteP (c : UInt8) : Pat := .mk 0 (put 0 c.toNat) 0 0 []
def litP (s : ByteArray) : Pat := .mk 1 0 0 0 (s.data.toList.map byteP)
theorem rwith_zero (b : Nat) (hb : b < 256) (w : World) :
    Calls Tryd.prog 38 #[.agg #[.int .u64 0, .int .u64 0, .int .u64 0, .int .u64 0], .int .u8 b] w fun e w' => e = .returned (.agg #[.int .u64 (wd (put 0 b) 0), .int .u64 (wd (put 0 b) 1), .int .u64 (wd (put 0 b) 2), .int .u64 (wd (put 0 b) 3)]) ∧ Below w.heap.size w w' := by
  have := rwith_any 0 b hb w
  rw [wd_zero, wd_zero, wd_zero, wd_zero] at this
  exact this
/-- The zero node's cells. -/
def z8 : Array Value := #[.int .i64 0, .int .u64 0, .int .u64 0, .int .u64 0, .int .u64 0, .int .i64 0, .int .i64 0, .slice none 0 0]
set_option maxHeartbeats 2000000 in
theorem rlit_any (s : ByteArray) (w : World) (hlen : s.size ≤ 1000) :
    Calls Tryd.prog 21 #[.string s] w fun e w' => ∃ ks, e = .returned (.agg #[.int .i64 (litP s).op, .int .u64 (wd (litP s).set 0), .int .u64 (wd (litP s).set 1), .int .u64 (wd (litP s).set 2), .int .u64 (wd (litP s).set 3), .int .i64 (litP s).lo, .int .i64 (litP s).hi, ks]) ∧ KidsN w' w.heap.size (litP s).kids ks ∧ Below w.heap.size w w' := by
  obtain ⟨i0, hi, hy0, hy1, hy2⟩ := info_parts infoNode
  go_enter Tryd.func21, Tryd.ntmps21
  go_wp2_with fail
  go_loopw [3, 4] (fun v i wr => ∃ (L : List (Pat × Value)), L.length ≤ s.size ∧ i = .int .i64 L.length ∧ Hid (L.map Prod.fst = (s.data.toList.take L.length).map byteP) ∧ NRow wr (w.heap.size + 1) v L ∧ Box wr w.heap.size z8 ∧ Below w.heap.size w wr) (fun _ i _ => s.size - (intOf i).toNat)
  case atStart => exact ⟨[], by simp, rfl, rfl, NRow.nil _ _, Box.new _ _ rfl, (Below.refl _ _).alloc (Nat.le_refl _) _⟩
  case round =>
    obtain ⟨L, hk, rfl, HLm, hrow, hz, hbw⟩ := hrel
    have hls := hz.lt
    obtain ⟨a, cap, rfl⟩ := hrow.form
    by_cases hlt : L.length < s.size
    · have HT : Hid ((s.data.toList.take (L.length + 1)).map byteP = (s.data.toList.take L.length).map byteP ++ [byteP s[L.length]]) := by rw [Hid, take_snoc s _ hlt]; simp
      go_wp2_with (first
        | (go_at_call 38; refine (rwith_zero _ (UInt8.toNat_lt _) _).mono ?_; rintro e w1 ⟨rfl, hb1⟩)
        | (go_at_call 19; refine (rset_any _ _).mono ?_; rintro e w2 ⟨rfl, hb2⟩; have hrow2 := (hrow.below hb1).below hb2; have hz2 := (hz.below hb1).below hb2; have hlz := hz2.lt)
        | (at_builtin; refine wpList_append_own_at _ rfl _ _ 34 rfl (w.heap.size + 1) 36 i0 (.agg #[.int .i64 0, .int .u64 0, .int .u64 0, .int .u64 0, .int .u64 0, .int .i64 0, .int .i64 0, .slice none 0 0]) 8 80 Tryd.underlying34 hi hy0 hy1 hy2 rfl (by decide) _ _ _ rfl (hrow2.1.alloc _) ⟨w2.heap.size, 0, none⟩ 1 1 [.int .i64 (byteP s[L.length]).op, .int .u64 (wd (byteP s[L.length]).set 0), .int .u64 (wd (byteP s[L.length]).set 1), .int .u64 (wd (byteP s[L.length]).set 2), .int .u64 (wd (byteP s[L.length]).set 3), .int .i64 (byteP s[L.length]).lo, .int .i64 (byteP s[L.length]).hi, .slice none 0 0] rfl rfl (cell_eight_new _ _ _ _) (by simp [Value.oneCell']) (by unfold maxLen; omega) (by omega) (by simp; omega) ?_; intro v' w3 hown' hgrow _ hat))
      go_roundw
      case rel =>
        have hbn : Below w2.heap.size w2 (w2.alloc (.cells #[.int .i64 (byteP s[L.length]).op, .int .u64 (wd (byteP s[L.length]).set 0), .int .u64 (wd (byteP s[L.length]).set 1), .int .u64 (wd (byteP s[L.length]).set 2), .int .u64 (wd (byteP s[L.length]).set 3), .int .i64 (byteP s[L.length]).lo, .int .i64 (byteP s[L.length]).hi, .slice none 0 0] 36)) := (Below.refl _ _).alloc (Nat.le_refl _) _
        have hr3 := hrow2.below hbn
        refine ⟨L ++ [(byteP s[L.length], .slice none 0 0)], by simp; omega, by simp, ?_, hr3.snoc hown' hgrow hat (Kids.nil _ _ _), (hz2.alloc _).grown hgrow (own_not hr3.1 (by omega)), ?_⟩
        · rw [Hid, List.length_append, List.map_append, HLm.out]; exact HT.out.symm
        · have h1 := hbw.trans (hb1.mono hbw.size)
          have h2 := h1.trans (hb2.mono h1.size)
          exact below_grown (h2.trans (hbn.mono h2.size)) hr3.1 hgrow (by omega)
      case measure => simp [intOf]; omega
    · have hLs : L.length = s.size := by omega
      have hK : KidsN wr (w.heap.size + 1) (litP s).kids (.slice a L.length cap) := by
        have := hrow.kidsN
        rw [HLm.out, hLs, List.take_of_length_le (by simp)] at this
        rw [hLs]; exact this
      have HK := Lib.hid hK
      clear hK hLs
      unfold z8 at hz
      go_wp2_with (go_at_call 18; refine (rmany_any 1 _ (litP s).kids _ HK.out.kids).mono ?_; rintro e w2 ⟨rfl, hb2⟩; obtain ⟨c0, c1, c2, c3, c4, c5, c6, c7⟩ := (hz.below hb2).cells; obtain ⟨f0, f1, f2, f3, f4, f5, f6, f7⟩ := (hz.below hb2).frees)
      refine bodyPost_ret (v := (.agg #[.int .i64 (litP s).op, .int .u64 (wd (litP s).set 0), .int .u64 (wd (litP s).set 1), .int .u64 (wd (litP s).set 2), .int .u64 (wd (litP s).set 3), .int .i64 (litP s).lo, .int .i64 (litP s).hi, .slice a L.length cap])) (by simp [results, Tryd.results21, go_sem, litP, Pat.op, Pat.set, Pat.lo, Pat.hi, wd_none, *]) rfl ⟨_, rfl, ?_, ?_⟩
      · exact ((HK.out.below hb2).set8 (by omega) _ _ _ _ _ _ _ _).mono (by omega)
      · exact below_set8 (hbw.trans (hb2.mono hbw.size)) (by omega) _ _ _ _ _ _ _ _
theorem back_kids_len (p : Pat) : p.back.kids.length = p.kids.length := by
  rw [back_eq, kids_mk]; cases p.op == 1 <;> simp
theorem back_take_no (p : Pat) (h : (p.op == 1) = false) (k : Nat) (hk : k < p.kids.length) : p.back.kids.take (k + 1) = p.back.kids.take k ++ [p.kids[k].back] := by
  have hl := back_kids_len p
  rw [List.take_succ_eq_append_getElem (by omega)]
  congr 2
  simp only [back_eq p, kids_mk, h, cond_false, List.getElem_map]
theorem back_take_yes (p : Pat) (h : (p.op == 1) = true) (k : Nat) (hk : k < p.kids.length) (j : Nat) (hj : j < p.kids.length) (e : j = p.kids.length - 1 - k) : p.back.kids.take (k + 1) = p.back.kids.take k ++ [p.kids[j].back] := by
  have hl := back_kids_len p
  subst e
  rw [List.take_succ_eq_append_getElem (by omega)]
  congr 2
  simp only [back_eq p, kids_mk, h, cond_true, List.getElem_reverse, List.getElem_map, List.length_map]
theorem sub_idx (n k : Nat) (h : k < n) : ((n : Int) - 1 - (k : Int)) = ((n - 1 - k : Nat) : Int) := by omega
end Go.Proofs.YtpfhhdiipedklaaDoor
set_option maxRecDepth 20000
namespace Go.Proofs.YtpfhhdiipedklaaDoor
open Go.RowKit

def regionOf (n : Nat) : Code → Option Code
  | .region id ops b => if id = n then some (.region id ops b) else none
  | .seq a b => match regionOf n a with
    | some c => some c
    | none => regionOf n b
  | .block _ c => regionOf n c
  | .scope c => regionOf n c
  | .loop c => regionOf n c
  | .rangeFunc _ _ a b => match regionOf n a with
    | some c => some c
    | none => regionOf n b
  | .cond _ a b => match regionOf n a with
    | some c => some c
    | none => regionOf n b
  | _ => none
theorem then_false {K : Act → World → Prop} {Q : Exit → Act → World → Prop} : ∀ (e : Exit) (a : Act) (w : World), Exit.then K (fun _ _ _ => False) e a w → Exit.then K Q e a w := fun e a w h => by
  cases e <;> first | exact h | exact (h : False).elim
end Go.Proofs.YtpfhhdiipedklaaDoor
set_option maxRecDepth 20000
namespace Go.Proofs.YtpfhhdiipedklaaDoor
open Go.RowKit

mutual
/-- May it be, wherever it stands? -/
def Pat.good : Pat → Bool
  | .mk op _ lo hi kids => okN op lo hi kids.length && goodL kids
def goodL : List Pat → Bool
  | [] => true
  | p :: ps => p.good && goodL ps
end
mutual
/-- No And and no Not is in it. -/
def Pat.pln : Pat → Bool
  | .mk op _ _ _ kids => (op != 4 && op != 5) && plnL kids
def plnL : List Pat → Bool
  | [] => true
  | p :: ps => p.pln && plnL ps
end
theorem goodL_eq (l : List Pat) : goodL l = l.all Pat.good := by induction l with | nil => rfl | cons p ps ih => simp [goodL, ih]
theorem plnL_eq (l : List Pat) : plnL l = l.all Pat.pln := by induction l with | nil => rfl | cons p ps ih => simp [plnL, ih]
theorem good_eq (p : Pat) : p.good = (okN p.op p.lo p.hi p.kids.length && p.kids.all Pat.good) := by cases p; simp only [Pat.good, goodL_eq, Pat.op, Pat.lo, Pat.hi, Pat.kids]
theorem pln_eq (p : Pat) : p.pln = ((p.op != 4 && p.op != 5) && p.kids.all Pat.pln) := by cases p; simp only [Pat.pln, plnL_eq, Pat.op, Pat.kids]
/-- Does a text make no And and no Not? -/
def plainB (s : ByteArray) : Bool := (List.range s.size).all fun k => decide ((s.data[k]?.getD 0).toNat % 8 < 6)
theorem plain_at {s : ByteArray} (h : plainB s = true) {k : Nat} (hk : k < s.size) : s[k].toNat % 8 < 6 := by
  have h1 := List.all_eq_true.1 h k (by simpa using hk)
  have h2 : s.data[k]? = some s[k] := by
    rw [Array.getElem?_eq_getElem (by simpa using hk)]; rfl
  rw [h2] at h1
  simpa using h1
/-- Each is as Make makes it. -/
def okS (tx : ByteArray) (l : List Pat) : Bool := l.all (fun p => p.good && (!plainB tx || p.pln))
theorem okS_snoc (tx : ByteArray) (a b : List Pat) : okS tx (a ++ b) = (okS tx a && okS tx b) := by unfold okS; rw [List.all_append]
theorem okS_one {tx : ByteArray} {p : Pat} (h : okS tx [p] = true) : p.good = true ∧ (plainB tx = true → p.pln = true) := by
  simp only [okS, List.all_cons, List.all_nil, Bool.and_true, Bool.and_eq_true, Bool.or_eq_true, Bool.not_eq_true'] at h
  exact ⟨h.1, fun hp => h.2.resolve_left (by rw [hp]; simp)⟩
theorem okS_of {tx : ByteArray} {p : Pat} (h : p.good = true) (h2 : plainB tx = true → p.pln = true) : okS tx [p] = true := by
  simp only [okS, List.all_cons, List.all_nil, Bool.and_true, Bool.and_eq_true, Bool.or_eq_true, Bool.not_eq_true']
  refine ⟨h, ?_⟩
  cases e : plainB tx
  · exact .inl rfl
  · exact .inr (h2 e)
theorem okS_all {tx : ByteArray} {l : List Pat} (h : okS tx l = true) : (∀ p ∈ l, p.good = true) ∧ (plainB tx = true → ∀ p ∈ l, p.pln = true) := by
  unfold okS at h
  rw [List.all_eq_true] at h
  have h1 : ∀ p ∈ l, p.good = true ∧ (plainB tx = true → p.pln = true) := fun p hp => okS_one (by simp only [okS, List.all_cons, List.all_nil, Bool.and_true]; exact h p hp)
  exact ⟨fun p hp => (h1 p hp).1, fun hb p hp => (h1 p hp).2 hb⟩
theorem okS_mk {tx : ByteArray} {op lo hi : Int} {c : BitVec 256} {l : List Pat} (h : okS tx l = true) (hop : okN op lo hi l.length = true) (hpl : plainB tx = true → op ≠ 4 ∧ op ≠ 5) : okS tx [Pat.mk op c lo hi l] = true := by
  obtain ⟨h1, h2⟩ := okS_all h
  refine okS_of ?_ fun hb => ?_
  · rw [good_eq, Bool.and_eq_true, List.all_eq_true]; exact ⟨hop, h1⟩
  · rw [pln_eq, Bool.and_eq_true, List.all_eq_true]
    have := hpl hb
    exact ⟨by simp [Pat.op, this.1, this.2], h2 hb⟩
theorem split_two {α : Type} (L : List α) (h : 1 < L.length) : ∃ L0 x y, L = L0 ++ [x, y] := by
  rcases List.eq_nil_or_concat L with rfl | ⟨L1, y, rfl⟩
  · simp at h
  · rw [List.concat_eq_append] at h ⊢
    rcases List.eq_nil_or_concat L1 with rfl | ⟨L0, x, rfl⟩
    · simp at h
    · exact ⟨L0, x, y, by simp [List.concat_eq_append]⟩
theorem split_one {α : Type} (L : List α) (h : 0 < L.length) : ∃ L0 x, L = L0 ++ [x] := by
  rcases List.eq_nil_or_concat L with rfl | ⟨L1, y, rfl⟩
  · simp at h
  · exact ⟨L1, y, by rw [List.concat_eq_append]⟩
/-- The two last nodes become one. -/
theorem two_size (L0 : List (Pat × Value)) (x y : Pat) (xs ys ks : Value) (op : Int) (k : Nat) (h : Pat.sizes ((L0 ++ [(x, xs), (y, ys)]).map Prod.fst) ≤ k) : Pat.sizes ((L0 ++ [(Pat.mk op 0 0 0 [x, y], ks)]).map Prod.fst) ≤ k + 1 := by
  simp only [List.map_append, List.map_cons, List.map_nil, sizes_append, Pat.sizes, Pat.size] at h ⊢; omega
theorem two_ok {tx : ByteArray} (L0 : List (Pat × Value)) (x y : Pat) (xs ys ks : Value) (op : Int) (hop : okN op 0 0 2 = true) (hpl : plainB tx = true → op ≠ 4 ∧ op ≠ 5) (h : okS tx ((L0 ++ [(x, xs), (y, ys)]).map Prod.fst) = true) : okS tx ((L0 ++ [(Pat.mk op 0 0 0 [x, y], ks)]).map Prod.fst) = true := by
  simp only [List.map_append, List.map_cons, List.map_nil, okS_snoc, Bool.and_eq_true] at h ⊢
  exact ⟨h.1, okS_mk h.2 hop hpl⟩
theorem one_size (L0 : List (Pat × Value)) (x : Pat) (xs ks : Value) (op lo hi : Int) (k : Nat) (h : Pat.sizes ((L0 ++ [(x, xs)]).map Prod.fst) ≤ k) : Pat.sizes ((L0 ++ [(Pat.mk op 0 lo hi [x], ks)]).map Prod.fst) ≤ k + 1 := by
  simp only [List.map_append, List.map_cons, List.map_nil, sizes_append, Pat.sizes, Pat.size] at h ⊢; omega
theorem one_ok {tx : ByteArray} (L0 : List (Pat × Value)) (x : Pat) (xs ks : Value) (op lo hi : Int) (hbd : okN op lo hi 1 = true ∧ (plainB tx = true → op ≠ 4 ∧ op ≠ 5)) (h : okS tx ((L0 ++ [(x, xs)]).map Prod.fst) = true) : okS tx ((L0 ++ [(Pat.mk op 0 lo hi [x], ks)]).map Prod.fst) = true := by
  simp only [List.map_append, List.map_cons, List.map_nil, okS_snoc, Bool.and_eq_true] at h ⊢
  exact ⟨h.1, okS_mk h.2 hbd.1 hbd.2⟩
theorem new_size (L : List (Pat × Value)) (s : BitVec 256) (ks : Value) (k : Nat) (h : Pat.sizes (L.map Prod.fst) ≤ k) : Pat.sizes ((L ++ [(Pat.mk 0 s 0 0 [], ks)]).map Prod.fst) ≤ k + 1 := by
  simp only [List.map_append, List.map_cons, List.map_nil, sizes_append, Pat.sizes, Pat.size] at h ⊢; omega
theorem new_ok {tx : ByteArray} (L : List (Pat × Value)) (s : BitVec 256) (ks : Value) (h : okS tx (L.map Prod.fst) = true) : okS tx ((L ++ [(Pat.mk 0 s 0 0 [], ks)]).map Prod.fst) = true := by
  simp only [List.map_append, List.map_cons, List.map_nil, okS_snoc, h, Bool.true_and]
  exact okS_of rfl fun _ => rfl
/-- A node is stored in the place of the last ones: the row, cut. -/
theorem NRow.cut1 {w : World} {base g cap n : Nat} {L0 : List (Pat × Value)} {x : Pat × Value} (h : NRow w base (.slice (some ⟨g, 0, none⟩) n cap) (L0 ++ [x])) : L0.length + 1 = n := by
  rcases h.1.2 with ⟨e, _⟩ | ⟨g', cap', cur, e, _⟩
  · cases e
  · cases e; simp
theorem set_mid {α : Type} (L0 : List α) (x y z : α) (m : Nat) (hm : L0.length = m) : (L0 ++ [x, y]).set m z = (L0 ++ [z]) ++ [y] := by subst hm; simp
theorem set_last {α : Type} (L0 : List α) (x z : α) (m : Nat) (hm : L0.length = m) : (L0 ++ [x]).set m z = L0 ++ [z] := by subst hm; simp
set_option maxHeartbeats 400000 in
theorem rrep_m (p : Pat) (ks : Value) (lo hi : Int) (w : World) (base : Nat) (x : Option Nat) (hk : Kids (mask w base x) p.kids ks) (hb : base ≤ w.heap.size) (hx : ∀ g, x = some g → g < w.heap.size) :
    Calls Tryd.prog 20 #[(.agg #[.int .i64 p.op, .int .u64 (wd p.set 0), .int .u64 (wd p.set 1), .int .u64 (wd p.set 2), .int .u64 (wd p.set 3), .int .i64 p.lo, .int .i64 p.hi, ks]), .int .i64 lo, .int .i64 hi] w fun e w' => ∃ n, e = .returned (.agg #[.int .i64 (Pat.mk 3 0 lo hi [p]).op, .int .u64 (wd (Pat.mk 3 0 lo hi [p]).set 0), .int .u64 (wd (Pat.mk 3 0 lo hi [p]).set 1), .int .u64 (wd (Pat.mk 3 0 lo hi [p]).set 2), .int .u64 (wd (Pat.mk 3 0 lo hi [p]).set 3), .int .i64 (Pat.mk 3 0 lo hi [p]).lo, .int .i64 (Pat.mk 3 0 lo hi [p]).hi, .slice (some ⟨n, 0, none⟩) 1 1]) ∧ Kids (mask w' base x) [p] (.slice (some ⟨n, 0, none⟩) 1 1) ∧ Below w.heap.size w w' := by
  have hk0 := hk
  obtain ⟨a, cap, rfl⟩ := hk.len
  go_enter Tryd.func20, Tryd.ntmps20
  go_wp2
  refine bodyPost_ret (v := (.agg #[.int .i64 (Pat.mk 3 0 lo hi [p]).op, .int .u64 (wd (Pat.mk 3 0 lo hi [p]).set 0), .int .u64 (wd (Pat.mk 3 0 lo hi [p]).set 1), .int .u64 (wd (Pat.mk 3 0 lo hi [p]).set 2), .int .u64 (wd (Pat.mk 3 0 lo hi [p]).set 3), .int .i64 (Pat.mk 3 0 lo hi [p]).lo, .int .i64 (Pat.mk 3 0 lo hi [p]).hi, .slice (some ⟨w.heap.size + 1 + 1, 0, none⟩) 1 1])) (by simp [results, Tryd.results20, go_sem, Pat.op, Pat.set, Pat.lo, Pat.hi, wd_none]) rfl ⟨_, rfl, ?_, ?_⟩
  · exact (hk0.masked_below (below2 _ _ _)).oneM (by simp) (by omega) (fun e => by have := hx _ e.symm; omega)
  · exact below3 _ _ _ _
theorem below_1 (w : World) (o : Obj) : Below w.heap.size w (w.alloc o) := (Below.refl _ _).alloc (Nat.le_refl _) _
/-- What a round of Make hands on. -/
def MkRel (tx : ByteArray) (w : World) (k : Nat) (v : Value) (w' : World) : Prop := ∃ L : List (Pat × Value), k ≤ tx.size ∧ Pat.sizes (L.map Prod.fst) ≤ k ∧ okS tx (L.map Prod.fst) = true ∧ NRow w' (w.heap.size + 1) v L ∧ Box w' w.heap.size z8 ∧ Below w.heap.size w w'
def loopOf : Code → Option Code
  | .loop c => some c
  | .seq a b => match loopOf a with
    | some c => some c
    | none => loopOf b
  | .block _ c => loopOf c
  | .scope c => loopOf c
  | .cond _ a b => match loopOf a with
    | some c => some c
    | none => loopOf b
  | _ => none
noncomputable def mkBody : Code := ((Tryd.f27.body.bind loopOf).getD .skip)
theorem new_rel {tx : ByteArray} {w w1 w7 : World} {k : Nat} {L : List (Pat × Value)} {v v' : Value} {s : BitVec 256} {ks : Value}
    (hlt : k < tx.size) (hr3 : NRow w1 (w.heap.size + 1) v L) (hown : w7.ownsRow (w.heap.size + 1) 36 8 v' (L.length + 1) (flatN L ++ [.int .i64 (Pat.mk 0 s 0 0 []).op, .int .u64 (wd (Pat.mk 0 s 0 0 []).set 0), .int .u64 (wd (Pat.mk 0 s 0 0 []).set 1), .int .u64 (wd (Pat.mk 0 s 0 0 []).set 2), .int .u64 (wd (Pat.mk 0 s 0 0 []).set 3), .int .i64 (Pat.mk 0 s 0 0 []).lo, .int .i64 (Pat.mk 0 s 0 0 []).hi, ks])) (hg : w1.grownBy w7 v.ownBlock) (hat : v'.ownBlock = v.ownBlock ∨ v'.ownBlock = some w1.heap.size)
    (hp : Kids (mask w1 (w.heap.size + 1) v.ownBlock) [] ks) (hz : Box w1 w.heap.size z8) (hb : Below w.heap.size w w1) (hsz : Pat.sizes (L.map Prod.fst) ≤ k) (hok : okS tx (L.map Prod.fst) = true) : MkRel tx w (k + 1) v' w7 :=
  ⟨_, by omega, new_size _ _ _ _ hsz, new_ok _ _ _ hok, hr3.snoc (p := Pat.mk 0 s 0 0 []) hown hg hat hp, hz.grown hg (own_not hr3.1 (by omega)), below_grown hb hr3.1 hg (by omega)⟩
theorem two_end {tx : ByteArray} {w w6 : World} {k m n m1 g cap : Nat} {L0 : List (Pat × Value)} {x1 y1 : Pat} {x2 y2 ks : Value} {op : Int}
    (hm : L0.length = m) (hn : n = m + 2) (hm1 : m1 = m + 1) (hlt : k < tx.size) (hrow : NRow w6 (w.heap.size + 1) (.slice (some ⟨g, 0, none⟩) n cap) (L0 ++ [(x1, x2), (y1, y2)])) (hz : Box w6 w.heap.size z8) (hbw : Below w.heap.size w w6)
    (hK : Kids (mask w6 (w.heap.size + 1) (some g)) [x1, y1] ks) (hsz : Pat.sizes ((L0 ++ [(x1, x2), (y1, y2)]).map Prod.fst) ≤ k) (hok : okS tx ((L0 ++ [(x1, x2), (y1, y2)]).map Prod.fst) = true) (hop : okN op 0 0 2 = true) (hpl : plainB tx = true → op ≠ 4 ∧ op ≠ 5) :
    MkRel tx w (k + 1) (.slice (some ⟨g, 0, none⟩) m1 cap) ((((((((w6.setCell ⟨g, m * 8, none⟩ (.int .i64 (Pat.mk op 0 0 0 [x1, y1]).op)).setCell ⟨g, m * 8 + 1, none⟩ (.int .u64 (wd (Pat.mk op 0 0 0 [x1, y1]).set 0))).setCell ⟨g, m * 8 + 2, none⟩ (.int .u64 (wd (Pat.mk op 0 0 0 [x1, y1]).set 1))).setCell ⟨g, m * 8 + 3, none⟩ (.int .u64 (wd (Pat.mk op 0 0 0 [x1, y1]).set 2))).setCell ⟨g, m * 8 + 4, none⟩ (.int .u64 (wd (Pat.mk op 0 0 0 [x1, y1]).set 3))).setCell ⟨g, m * 8 + 5, none⟩ (.int .i64 (Pat.mk op 0 0 0 [x1, y1]).lo)).setCell ⟨g, m * 8 + 6, none⟩ (.int .i64 (Pat.mk op 0 0 0 [x1, y1]).hi)).setCell ⟨g, m * 8 + 7, none⟩ ks) := by
  obtain ⟨h1, h2⟩ := hrow.set (i := m) (p := Pat.mk op 0 0 0 [x1, y1]) (ks := ks) (by simp [hm, hn]) (by simp [hm]) hK
  rw [set_mid _ _ _ _ _ hm] at h1
  rw [hn] at h1
  have h3 := h1.pop (by simp [hm])
  exact ⟨_, by omega, two_size _ _ _ _ _ _ _ _ hsz, two_ok _ _ _ _ _ _ _ hop hpl hok, hm1 ▸ h3, hz.grown h2 (fun e => by have h9 : g = w.heap.size := Option.some.inj e; have := (hrow.1.lt g rfl).1; omega), below_grown hbw hrow.1 h2 (by omega)⟩
theorem one_end {tx : ByteArray} {w w6 : World} {k m n g cap : Nat} {L0 : List (Pat × Value)} {x1 : Pat} {x2 ks : Value} {op lo hi : Int}
    (hm : L0.length = m) (hn : n = m + 1) (hlt : k < tx.size) (hrow : NRow w6 (w.heap.size + 1) (.slice (some ⟨g, 0, none⟩) n cap) (L0 ++ [(x1, x2)])) (hz : Box w6 w.heap.size z8) (hbw : Below w.heap.size w w6)
    (hK : Kids (mask w6 (w.heap.size + 1) (some g)) [x1] ks) (hsz : Pat.sizes ((L0 ++ [(x1, x2)]).map Prod.fst) ≤ k) (hok : okS tx ((L0 ++ [(x1, x2)]).map Prod.fst) = true) (hbd : okN op lo hi 1 = true ∧ (plainB tx = true → op ≠ 4 ∧ op ≠ 5)) :
    MkRel tx w (k + 1) (.slice (some ⟨g, 0, none⟩) n cap) ((((((((w6.setCell ⟨g, m * 8, none⟩ (.int .i64 (Pat.mk op 0 lo hi [x1]).op)).setCell ⟨g, m * 8 + 1, none⟩ (.int .u64 (wd (Pat.mk op 0 lo hi [x1]).set 0))).setCell ⟨g, m * 8 + 2, none⟩ (.int .u64 (wd (Pat.mk op 0 lo hi [x1]).set 1))).setCell ⟨g, m * 8 + 3, none⟩ (.int .u64 (wd (Pat.mk op 0 lo hi [x1]).set 2))).setCell ⟨g, m * 8 + 4, none⟩ (.int .u64 (wd (Pat.mk op 0 lo hi [x1]).set 3))).setCell ⟨g, m * 8 + 5, none⟩ (.int .i64 (Pat.mk op 0 lo hi [x1]).lo)).setCell ⟨g, m * 8 + 6, none⟩ (.int .i64 (Pat.mk op 0 lo hi [x1]).hi)).setCell ⟨g, m * 8 + 7, none⟩ ks) := by
  obtain ⟨h1, h2⟩ := hrow.set (i := m) (p := (Pat.mk op 0 lo hi [x1])) (ks := ks) (by simp [hm, hn]) (by simp [hm]) hK
  rw [set_last _ _ _ _ hm] at h1
  exact ⟨_, by omega, one_size _ _ _ _ _ _ _ _ hsz, one_ok _ _ _ _ _ _ _ hbd hok, h1, hz.grown h2 (fun e => by have h9 : g = w.heap.size := Option.some.inj e; have := (hrow.1.lt g rfl).1; omega), below_grown hbw hrow.1 h2 (by omega)⟩
end Go.Proofs.YtpfhhdiipedklaaDoor
set_option maxRecDepth 20000
namespace Go.Proofs.YtpfhhdiipedklaaDoor
open Go.RowKit

noncomputable def reg10 : Code := ((Tryd.f27.body.bind (regionOf 10)).getD .skip)
set_option maxHeartbeats 8000000 in
theorem reg10_any (K : Act → World → Prop) (w3 : World) (base g n m m1 cap : Nat) (x1 y1 : Pat) (xa ya : Option Addr) (xc yc : Nat)
    (hwr2 : IntKind.i64.wrap ((n : Int) - 2) = (m : Int)) (hwr1 : IntKind.i64.wrap ((n : Int) - 1) = (m1 : Int))
    (hj0 : (0 : Int) ≤ (m : Int)) (hj1 : (m : Int) < (n : Int)) (hj2 : (0 : Int) ≤ (m1 : Int)) (hj3 : (m1 : Int) < (n : Int)) (hg2 : g < w3.heap.size) (hbg : base ≤ w3.heap.size)
    (e0 : w3.cell? ⟨g, m * 8, none⟩ = some (.int .i64 x1.op)) (e1 : w3.cell? ⟨g, m * 8 + 1, none⟩ = some (.int .u64 (wd x1.set 0))) (e2 : w3.cell? ⟨g, m * 8 + 1 + 1, none⟩ = some (.int .u64 (wd x1.set 1))) (e3 : w3.cell? ⟨g, m * 8 + 1 + 1 + 1, none⟩ = some (.int .u64 (wd x1.set 2))) (e4 : w3.cell? ⟨g, m * 8 + 1 + 1 + 1 + 1, none⟩ = some (.int .u64 (wd x1.set 3))) (e5 : w3.cell? ⟨g, m * 8 + 1 + 1 + 1 + 1 + 1, none⟩ = some (.int .i64 x1.lo)) (e6 : w3.cell? ⟨g, m * 8 + 1 + 1 + 1 + 1 + 1 + 1, none⟩ = some (.int .i64 x1.hi)) (e7 : w3.cell? ⟨g, m * 8 + 1 + 1 + 1 + 1 + 1 + 1 + 1, none⟩ = some (.slice xa x1.kids.length xc))
    (f0 : w3.cell? ⟨g, m1 * 8, none⟩ = some (.int .i64 y1.op)) (f1 : w3.cell? ⟨g, m1 * 8 + 1, none⟩ = some (.int .u64 (wd y1.set 0))) (f2 : w3.cell? ⟨g, m1 * 8 + 1 + 1, none⟩ = some (.int .u64 (wd y1.set 1))) (f3 : w3.cell? ⟨g, m1 * 8 + 1 + 1 + 1, none⟩ = some (.int .u64 (wd y1.set 2))) (f4 : w3.cell? ⟨g, m1 * 8 + 1 + 1 + 1 + 1, none⟩ = some (.int .u64 (wd y1.set 3))) (f5 : w3.cell? ⟨g, m1 * 8 + 1 + 1 + 1 + 1 + 1, none⟩ = some (.int .i64 y1.lo)) (f6 : w3.cell? ⟨g, m1 * 8 + 1 + 1 + 1 + 1 + 1 + 1, none⟩ = some (.int .i64 y1.hi)) (f7 : w3.cell? ⟨g, m1 * 8 + 1 + 1 + 1 + 1 + 1 + 1 + 1, none⟩ = some (.slice ya y1.kids.length yc))
    (hkx : Kids (mask w3 base (some g)) x1.kids (.slice xa x1.kids.length xc)) (hky : Kids (mask w3 base (some g)) y1.kids (.slice ya y1.kids.length yc))
    (t0 t1 t2 t4 t5 t7 t8 t9 t10 t11 t12 t13 t14 t15 t16 t17 t18 t19 t20 t21 t22 t23 t24 t25 t26 t27 t28 t29 t30 t31 t32 t33 t34 t35 t36 t37 t38 t39 t40 t41 t42 t43 t44 t45 t46 t47 t48 t49 t50 t51 t52 t53 t54 t55 t56 t57 t58 t59 t60 t61 t62 t63 t64 t65 t66 t67 t68 t69 t70 t71 t72 t73 t74 t75 t76 t77 t78 t79 t80 t81 t82 t83 t84 t85 t86 t87 t88 t89 t90 t91 t92 t93 t94 t95 t96 t97 t98 t99 t100 t101 t102 t103 t104 t105 t106 t107 t108 t109 t110 t111 t112 t113 t114 t115 t116 t117 t118 t119 t120 t121 t122 t123 t124 t125 t126 t127 t128 t129 t130 t131 t132 t133 t134 t135 t136 t137 t138 t139 t140 t141 t142 t143 t144 t145 t146 t147 t148 t149 t150 t151 t152 t153 t154 t155 t156 t157 t158 t159 t160 t161 t162 t163 t164 t165 t166 t167 t168 t169 t170 t171 t172 t173 t174 t175 t176 t177 t178 t179 t180 t181 t182 t183 t184 t185 t186 t187 t188 t189 t190 t191 t192 t193 t194 : Value)
    (HK : Hid (∀ (v45 v46 v47 v48 v49 v50 v51 v52 v53 v54 v55 v56 : Value) (b8 n8 : Nat) (wx : World), Hid (Aft w3 wx base g b8 (Pat.mk 1 0 0 0 [x1, y1]) (.slice (some ⟨n8, 0, none⟩) 2 2)) → K ⟨#[t0, t1, t2, .slice (some ⟨g, 0, none⟩) n cap, t4, t5, .int .i64 n, t7, .pointer (some ⟨b8, 0, none⟩), t9, t10, t11, t12, t13, t14, t15, t16, t17, t18, t19, t20, t21, t22, t23, t24, t25, t26, t27, t28, t29, t30, t31, t32, t33, t34, t35, t36, t37, t38, t39, t40, t41, t42, t43, t44, v45, v46, v47, v48, v49, v50, v51, v52, v53, v54, v55, v56, t57, t58, t59, t60, t61, t62, t63, t64, t65, t66, t67, t68, t69, t70, t71, t72, t73, t74, t75, t76, t77, t78, t79, t80, t81, t82, t83, t84, t85, t86, t87, t88, t89, t90, t91, t92, t93, t94, t95, t96, t97, t98, t99, t100, t101, t102, t103, t104, t105, t106, t107, t108, t109, t110, t111, t112, t113, t114, t115, t116, t117, t118, t119, t120, t121, t122, t123, t124, t125, t126, t127, t128, t129, t130, t131, t132, t133, t134, t135, t136, t137, t138, t139, t140, t141, t142, t143, t144, t145, t146, t147, t148, t149, t150, t151, t152, t153, t154, t155, t156, t157, t158, t159, t160, t161, t162, t163, t164, t165, t166, t167, t168, t169, t170, t171, t172, t173, t174, t175, t176, t177, t178, t179, t180, t181, t182, t183, t184, t185, t186, t187, t188, t189, t190, t191, t192, t193, t194], []⟩ wx)) :
    Code.wp Tryd.prog reg10 (Exit.then K (fun _ _ _ => False)) ⟨#[t0, t1, t2, .slice (some ⟨g, 0, none⟩) n cap, t4, t5, .int .i64 n, t7, t8, t9, t10, t11, t12, t13, t14, t15, t16, t17, t18, t19, t20, t21, t22, t23, t24, t25, t26, t27, t28, t29, t30, t31, t32, t33, t34, t35, t36, t37, t38, t39, t40, t41, t42, t43, t44, t45, t46, t47, t48, t49, t50, t51, t52, t53, t54, t55, t56, t57, t58, t59, t60, t61, t62, t63, t64, t65, t66, t67, t68, t69, t70, t71, t72, t73, t74, t75, t76, t77, t78, t79, t80, t81, t82, t83, t84, t85, t86, t87, t88, t89, t90, t91, t92, t93, t94, t95, t96, t97, t98, t99, t100, t101, t102, t103, t104, t105, t106, t107, t108, t109, t110, t111, t112, t113, t114, t115, t116, t117, t118, t119, t120, t121, t122, t123, t124, t125, t126, t127, t128, t129, t130, t131, t132, t133, t134, t135, t136, t137, t138, t139, t140, t141, t142, t143, t144, t145, t146, t147, t148, t149, t150, t151, t152, t153, t154, t155, t156, t157, t158, t159, t160, t161, t162, t163, t164, t165, t166, t167, t168, t169, t170, t171, t172, t173, t174, t175, t176, t177, t178, t179, t180, t181, t182, t183, t184, t185, t186, t187, t188, t189, t190, t191, t192, t193, t194], []⟩ w3 := by
  conv => arg 2; whnf
  go_region_with (first | (go_at_call 18; refine (rmany_sl 1 _ 2 2 [x1, y1] _).mono ?_; rintro e w5 ⟨rfl, hb5⟩; first | ((with_reducible refine use (aft3h 1 hkx hky hg2 hbg hb5) ?_); rintro ⟨hA, hbx⟩; have HA := Lib.hid hA; clear hA hb5; obtain ⟨z0, z1, z2, z3, z4, z5, z6, z7⟩ := hbx.cells; obtain ⟨q0, q1, q2, q3, q4, q5, q6, q7⟩ := hbx.frees; clear hbx) | ((with_reducible refine use (aft2h 1 hkx hky hg2 hbg hb5) ?_); rintro ⟨hA, hbx⟩; have HA := Lib.hid hA; clear hA hb5; obtain ⟨z0, z1, z2, z3, z4, z5, z6, z7⟩ := hbx.cells; obtain ⟨q0, q1, q2, q3, q4, q5, q6, q7⟩ := hbx.frees; clear hbx) | ((with_reducible refine use (aft1h 1 hkx hky hg2 hbg hb5) ?_); intro hA; have HA := Lib.hid hA; clear hA hb5)))
  all_goals
    clear e0 e1 e2 e3 e4 e5 e6 e7 f0 f1 f2 f3 f4 f5 f6 f7 hkx hky
    go_wp2_with fail
    exact HK.out _ _ _ _ _ _ _ _ _ _ _ _ _ _ _ HA
end Go.Proofs.YtpfhhdiipedklaaDoor
set_option maxRecDepth 20000
namespace Go.Proofs.YtpfhhdiipedklaaDoor
open Go.RowKit

noncomputable def reg14 : Code := ((Tryd.f27.body.bind (regionOf 14)).getD .skip)
set_option maxHeartbeats 8000000 in
theorem reg14_any (K : Act → World → Prop) (w3 : World) (base g n m m1 cap : Nat) (x1 y1 : Pat) (xa ya : Option Addr) (xc yc : Nat)
    (hwr2 : IntKind.i64.wrap ((n : Int) - 2) = (m : Int)) (hwr1 : IntKind.i64.wrap ((n : Int) - 1) = (m1 : Int))
    (hj0 : (0 : Int) ≤ (m : Int)) (hj1 : (m : Int) < (n : Int)) (hj2 : (0 : Int) ≤ (m1 : Int)) (hj3 : (m1 : Int) < (n : Int)) (hg2 : g < w3.heap.size) (hbg : base ≤ w3.heap.size)
    (e0 : w3.cell? ⟨g, m * 8, none⟩ = some (.int .i64 x1.op)) (e1 : w3.cell? ⟨g, m * 8 + 1, none⟩ = some (.int .u64 (wd x1.set 0))) (e2 : w3.cell? ⟨g, m * 8 + 1 + 1, none⟩ = some (.int .u64 (wd x1.set 1))) (e3 : w3.cell? ⟨g, m * 8 + 1 + 1 + 1, none⟩ = some (.int .u64 (wd x1.set 2))) (e4 : w3.cell? ⟨g, m * 8 + 1 + 1 + 1 + 1, none⟩ = some (.int .u64 (wd x1.set 3))) (e5 : w3.cell? ⟨g, m * 8 + 1 + 1 + 1 + 1 + 1, none⟩ = some (.int .i64 x1.lo)) (e6 : w3.cell? ⟨g, m * 8 + 1 + 1 + 1 + 1 + 1 + 1, none⟩ = some (.int .i64 x1.hi)) (e7 : w3.cell? ⟨g, m * 8 + 1 + 1 + 1 + 1 + 1 + 1 + 1, none⟩ = some (.slice xa x1.kids.length xc))
    (f0 : w3.cell? ⟨g, m1 * 8, none⟩ = some (.int .i64 y1.op)) (f1 : w3.cell? ⟨g, m1 * 8 + 1, none⟩ = some (.int .u64 (wd y1.set 0))) (f2 : w3.cell? ⟨g, m1 * 8 + 1 + 1, none⟩ = some (.int .u64 (wd y1.set 1))) (f3 : w3.cell? ⟨g, m1 * 8 + 1 + 1 + 1, none⟩ = some (.int .u64 (wd y1.set 2))) (f4 : w3.cell? ⟨g, m1 * 8 + 1 + 1 + 1 + 1, none⟩ = some (.int .u64 (wd y1.set 3))) (f5 : w3.cell? ⟨g, m1 * 8 + 1 + 1 + 1 + 1 + 1, none⟩ = some (.int .i64 y1.lo)) (f6 : w3.cell? ⟨g, m1 * 8 + 1 + 1 + 1 + 1 + 1 + 1, none⟩ = some (.int .i64 y1.hi)) (f7 : w3.cell? ⟨g, m1 * 8 + 1 + 1 + 1 + 1 + 1 + 1 + 1, none⟩ = some (.slice ya y1.kids.length yc))
    (hkx : Kids (mask w3 base (some g)) x1.kids (.slice xa x1.kids.length xc)) (hky : Kids (mask w3 base (some g)) y1.kids (.slice ya y1.kids.length yc))
    (t0 t1 t2 t4 t5 t7 t8 t9 t10 t11 t12 t13 t14 t15 t16 t17 t18 t19 t20 t21 t22 t23 t24 t25 t26 t27 t28 t29 t30 t31 t32 t33 t34 t35 t36 t37 t38 t39 t40 t41 t42 t43 t44 t45 t46 t47 t48 t49 t50 t51 t52 t53 t54 t55 t56 t57 t58 t59 t60 t61 t62 t63 t64 t65 t66 t67 t68 t69 t70 t71 t72 t73 t74 t75 t76 t77 t78 t79 t80 t81 t82 t83 t84 t85 t86 t87 t88 t89 t90 t91 t92 t93 t94 t95 t96 t97 t98 t99 t100 t101 t102 t103 t104 t105 t106 t107 t108 t109 t110 t111 t112 t113 t114 t115 t116 t117 t118 t119 t120 t121 t122 t123 t124 t125 t126 t127 t128 t129 t130 t131 t132 t133 t134 t135 t136 t137 t138 t139 t140 t141 t142 t143 t144 t145 t146 t147 t148 t149 t150 t151 t152 t153 t154 t155 t156 t157 t158 t159 t160 t161 t162 t163 t164 t165 t166 t167 t168 t169 t170 t171 t172 t173 t174 t175 t176 t177 t178 t179 t180 t181 t182 t183 t184 t185 t186 t187 t188 t189 t190 t191 t192 t193 t194 : Value)
    (HK : Hid (∀ (v74 v75 v76 v77 v78 v79 v80 v81 v82 v83 v84 v85 : Value) (b8 n8 : Nat) (wx : World), Hid (Aft w3 wx base g b8 (Pat.mk 2 0 0 0 [x1, y1]) (.slice (some ⟨n8, 0, none⟩) 2 2)) → K ⟨#[t0, t1, t2, .slice (some ⟨g, 0, none⟩) n cap, t4, t5, .int .i64 n, t7, t8, .pointer (some ⟨b8, 0, none⟩), t10, t11, t12, t13, t14, t15, t16, t17, t18, t19, t20, t21, t22, t23, t24, t25, t26, t27, t28, t29, t30, t31, t32, t33, t34, t35, t36, t37, t38, t39, t40, t41, t42, t43, t44, t45, t46, t47, t48, t49, t50, t51, t52, t53, t54, t55, t56, t57, t58, t59, t60, t61, t62, t63, t64, t65, t66, t67, t68, t69, t70, t71, t72, t73, v74, v75, v76, v77, v78, v79, v80, v81, v82, v83, v84, v85, t86, t87, t88, t89, t90, t91, t92, t93, t94, t95, t96, t97, t98, t99, t100, t101, t102, t103, t104, t105, t106, t107, t108, t109, t110, t111, t112, t113, t114, t115, t116, t117, t118, t119, t120, t121, t122, t123, t124, t125, t126, t127, t128, t129, t130, t131, t132, t133, t134, t135, t136, t137, t138, t139, t140, t141, t142, t143, t144, t145, t146, t147, t148, t149, t150, t151, t152, t153, t154, t155, t156, t157, t158, t159, t160, t161, t162, t163, t164, t165, t166, t167, t168, t169, t170, t171, t172, t173, t174, t175, t176, t177, t178, t179, t180, t181, t182, t183, t184, t185, t186, t187, t188, t189, t190, t191, t192, t193, t194], []⟩ wx)) :
    Code.wp Tryd.prog reg14 (Exit.then K (fun _ _ _ => False)) ⟨#[t0, t1, t2, .slice (some ⟨g, 0, none⟩) n cap, t4, t5, .int .i64 n, t7, t8, t9, t10, t11, t12, t13, t14, t15, t16, t17, t18, t19, t20, t21, t22, t23, t24, t25, t26, t27, t28, t29, t30, t31, t32, t33, t34, t35, t36, t37, t38, t39, t40, t41, t42, t43, t44, t45, t46, t47, t48, t49, t50, t51, t52, t53, t54, t55, t56, t57, t58, t59, t60, t61, t62, t63, t64, t65, t66, t67, t68, t69, t70, t71, t72, t73, t74, t75, t76, t77, t78, t79, t80, t81, t82, t83, t84, t85, t86, t87, t88, t89, t90, t91, t92, t93, t94, t95, t96, t97, t98, t99, t100, t101, t102, t103, t104, t105, t106, t107, t108, t109, t110, t111, t112, t113, t114, t115, t116, t117, t118, t119, t120, t121, t122, t123, t124, t125, t126, t127, t128, t129, t130, t131, t132, t133, t134, t135, t136, t137, t138, t139, t140, t141, t142, t143, t144, t145, t146, t147, t148, t149, t150, t151, t152, t153, t154, t155, t156, t157, t158, t159, t160, t161, t162, t163, t164, t165, t166, t167, t168, t169, t170, t171, t172, t173, t174, t175, t176, t177, t178, t179, t180, t181, t182, t183, t184, t185, t186, t187, t188, t189, t190, t191, t192, t193, t194], []⟩ w3 := by
  conv => arg 2; whnf
  go_region_with (first | (go_at_call 18; refine (rmany_sl 2 _ 2 2 [x1, y1] _).mono ?_; rintro e w5 ⟨rfl, hb5⟩; first | ((with_reducible refine use (aft3h 2 hkx hky hg2 hbg hb5) ?_); rintro ⟨hA, hbx⟩; have HA := Lib.hid hA; clear hA hb5; obtain ⟨z0, z1, z2, z3, z4, z5, z6, z7⟩ := hbx.cells; obtain ⟨q0, q1, q2, q3, q4, q5, q6, q7⟩ := hbx.frees; clear hbx) | ((with_reducible refine use (aft2h 2 hkx hky hg2 hbg hb5) ?_); rintro ⟨hA, hbx⟩; have HA := Lib.hid hA; clear hA hb5; obtain ⟨z0, z1, z2, z3, z4, z5, z6, z7⟩ := hbx.cells; obtain ⟨q0, q1, q2, q3, q4, q5, q6, q7⟩ := hbx.frees; clear hbx) | ((with_reducible refine use (aft1h 2 hkx hky hg2 hbg hb5) ?_); intro hA; have HA := Lib.hid hA; clear hA hb5)))
  all_goals
    clear e0 e1 e2 e3 e4 e5 e6 e7 f0 f1 f2 f3 f4 f5 f6 f7 hkx hky
    go_wp2_with fail
    exact HK.out _ _ _ _ _ _ _ _ _ _ _ _ _ _ _ HA
end Go.Proofs.YtpfhhdiipedklaaDoor
set_option maxRecDepth 20000
namespace Go.Proofs.YtpfhhdiipedklaaDoor
open Go.RowKit

noncomputable def reg24 : Code := ((Tryd.f27.body.bind (regionOf 24)).getD .skip)
set_option maxHeartbeats 8000000 in
theorem reg24_any (K : Act → World → Prop) (w3 : World) (base g n m m1 cap : Nat) (x1 y1 : Pat) (xa ya : Option Addr) (xc yc : Nat)
    (hwr2 : IntKind.i64.wrap ((n : Int) - 2) = (m : Int)) (hwr1 : IntKind.i64.wrap ((n : Int) - 1) = (m1 : Int))
    (hj0 : (0 : Int) ≤ (m : Int)) (hj1 : (m : Int) < (n : Int)) (hj2 : (0 : Int) ≤ (m1 : Int)) (hj3 : (m1 : Int) < (n : Int)) (hg2 : g < w3.heap.size) (hbg : base ≤ w3.heap.size)
    (e0 : w3.cell? ⟨g, m * 8, none⟩ = some (.int .i64 x1.op)) (e1 : w3.cell? ⟨g, m * 8 + 1, none⟩ = some (.int .u64 (wd x1.set 0))) (e2 : w3.cell? ⟨g, m * 8 + 1 + 1, none⟩ = some (.int .u64 (wd x1.set 1))) (e3 : w3.cell? ⟨g, m * 8 + 1 + 1 + 1, none⟩ = some (.int .u64 (wd x1.set 2))) (e4 : w3.cell? ⟨g, m * 8 + 1 + 1 + 1 + 1, none⟩ = some (.int .u64 (wd x1.set 3))) (e5 : w3.cell? ⟨g, m * 8 + 1 + 1 + 1 + 1 + 1, none⟩ = some (.int .i64 x1.lo)) (e6 : w3.cell? ⟨g, m * 8 + 1 + 1 + 1 + 1 + 1 + 1, none⟩ = some (.int .i64 x1.hi)) (e7 : w3.cell? ⟨g, m * 8 + 1 + 1 + 1 + 1 + 1 + 1 + 1, none⟩ = some (.slice xa x1.kids.length xc))
    (f0 : w3.cell? ⟨g, m1 * 8, none⟩ = some (.int .i64 y1.op)) (f1 : w3.cell? ⟨g, m1 * 8 + 1, none⟩ = some (.int .u64 (wd y1.set 0))) (f2 : w3.cell? ⟨g, m1 * 8 + 1 + 1, none⟩ = some (.int .u64 (wd y1.set 1))) (f3 : w3.cell? ⟨g, m1 * 8 + 1 + 1 + 1, none⟩ = some (.int .u64 (wd y1.set 2))) (f4 : w3.cell? ⟨g, m1 * 8 + 1 + 1 + 1 + 1, none⟩ = some (.int .u64 (wd y1.set 3))) (f5 : w3.cell? ⟨g, m1 * 8 + 1 + 1 + 1 + 1 + 1, none⟩ = some (.int .i64 y1.lo)) (f6 : w3.cell? ⟨g, m1 * 8 + 1 + 1 + 1 + 1 + 1 + 1, none⟩ = some (.int .i64 y1.hi)) (f7 : w3.cell? ⟨g, m1 * 8 + 1 + 1 + 1 + 1 + 1 + 1 + 1, none⟩ = some (.slice ya y1.kids.length yc))
    (hkx : Kids (mask w3 base (some g)) x1.kids (.slice xa x1.kids.length xc)) (hky : Kids (mask w3 base (some g)) y1.kids (.slice ya y1.kids.length yc))
    (t0 t1 t2 t4 t5 t7 t8 t9 t10 t11 t12 t13 t14 t15 t16 t17 t18 t19 t20 t21 t22 t23 t24 t25 t26 t27 t28 t29 t30 t31 t32 t33 t34 t35 t36 t37 t38 t39 t40 t41 t42 t43 t44 t45 t46 t47 t48 t49 t50 t51 t52 t53 t54 t55 t56 t57 t58 t59 t60 t61 t62 t63 t64 t65 t66 t67 t68 t69 t70 t71 t72 t73 t74 t75 t76 t77 t78 t79 t80 t81 t82 t83 t84 t85 t86 t87 t88 t89 t90 t91 t92 t93 t94 t95 t96 t97 t98 t99 t100 t101 t102 t103 t104 t105 t106 t107 t108 t109 t110 t111 t112 t113 t114 t115 t116 t117 t118 t119 t120 t121 t122 t123 t124 t125 t126 t127 t128 t129 t130 t131 t132 t133 t134 t135 t136 t137 t138 t139 t140 t141 t142 t143 t144 t145 t146 t147 t148 t149 t150 t151 t152 t153 t154 t155 t156 t157 t158 t159 t160 t161 t162 t163 t164 t165 t166 t167 t168 t169 t170 t171 t172 t173 t174 t175 t176 t177 t178 t179 t180 t181 t182 t183 t184 t185 t186 t187 t188 t189 t190 t191 t192 t193 t194 : Value)
    (HK : Hid (∀ (v133 v134 v135 v136 v137 v138 v139 v140 v141 v142 v143 v144 : Value) (b8 n8 : Nat) (wx : World), Hid (Aft w3 wx base g b8 (Pat.mk 4 0 0 0 [x1, y1]) (.slice (some ⟨n8, 0, none⟩) 2 2)) → K ⟨#[t0, t1, t2, .slice (some ⟨g, 0, none⟩) n cap, t4, t5, .int .i64 n, t7, t8, t9, t10, t11, .pointer (some ⟨b8, 0, none⟩), t13, t14, t15, t16, t17, t18, t19, t20, t21, t22, t23, t24, t25, t26, t27, t28, t29, t30, t31, t32, t33, t34, t35, t36, t37, t38, t39, t40, t41, t42, t43, t44, t45, t46, t47, t48, t49, t50, t51, t52, t53, t54, t55, t56, t57, t58, t59, t60, t61, t62, t63, t64, t65, t66, t67, t68, t69, t70, t71, t72, t73, t74, t75, t76, t77, t78, t79, t80, t81, t82, t83, t84, t85, t86, t87, t88, t89, t90, t91, t92, t93, t94, t95, t96, t97, t98, t99, t100, t101, t102, t103, t104, t105, t106, t107, t108, t109, t110, t111, t112, t113, t114, t115, t116, t117, t118, t119, t120, t121, t122, t123, t124, t125, t126, t127, t128, t129, t130, t131, t132, v133, v134, v135, v136, v137, v138, v139, v140, v141, v142, v143, v144, t145, t146, t147, t148, t149, t150, t151, t152, t153, t154, t155, t156, t157, t158, t159, t160, t161, t162, t163, t164, t165, t166, t167, t168, t169, t170, t171, t172, t173, t174, t175, t176, t177, t178, t179, t180, t181, t182, t183, t184, t185, t186, t187, t188, t189, t190, t191, t192, t193, t194], []⟩ wx)) :
    Code.wp Tryd.prog reg24 (Exit.then K (fun _ _ _ => False)) ⟨#[t0, t1, t2, .slice (some ⟨g, 0, none⟩) n cap, t4, t5, .int .i64 n, t7, t8, t9, t10, t11, t12, t13, t14, t15, t16, t17, t18, t19, t20, t21, t22, t23, t24, t25, t26, t27, t28, t29, t30, t31, t32, t33, t34, t35, t36, t37, t38, t39, t40, t41, t42, t43, t44, t45, t46, t47, t48, t49, t50, t51, t52, t53, t54, t55, t56, t57, t58, t59, t60, t61, t62, t63, t64, t65, t66, t67, t68, t69, t70, t71, t72, t73, t74, t75, t76, t77, t78, t79, t80, t81, t82, t83, t84, t85, t86, t87, t88, t89, t90, t91, t92, t93, t94, t95, t96, t97, t98, t99, t100, t101, t102, t103, t104, t105, t106, t107, t108, t109, t110, t111, t112, t113, t114, t115, t116, t117, t118, t119, t120, t121, t122, t123, t124, t125, t126, t127, t128, t129, t130, t131, t132, t133, t134, t135, t136, t137, t138, t139, t140, t141, t142, t143, t144, t145, t146, t147, t148, t149, t150, t151, t152, t153, t154, t155, t156, t157, t158, t159, t160, t161, t162, t163, t164, t165, t166, t167, t168, t169, t170, t171, t172, t173, t174, t175, t176, t177, t178, t179, t180, t181, t182, t183, t184, t185, t186, t187, t188, t189, t190, t191, t192, t193, t194], []⟩ w3 := by
  conv => arg 2; whnf
  go_region_with (first | (go_at_call 18; refine (rmany_sl 4 _ 2 2 [x1, y1] _).mono ?_; rintro e w5 ⟨rfl, hb5⟩; first | ((with_reducible refine use (aft3h 4 hkx hky hg2 hbg hb5) ?_); rintro ⟨hA, hbx⟩; have HA := Lib.hid hA; clear hA hb5; obtain ⟨z0, z1, z2, z3, z4, z5, z6, z7⟩ := hbx.cells; obtain ⟨q0, q1, q2, q3, q4, q5, q6, q7⟩ := hbx.frees; clear hbx) | ((with_reducible refine use (aft2h 4 hkx hky hg2 hbg hb5) ?_); rintro ⟨hA, hbx⟩; have HA := Lib.hid hA; clear hA hb5; obtain ⟨z0, z1, z2, z3, z4, z5, z6, z7⟩ := hbx.cells; obtain ⟨q0, q1, q2, q3, q4, q5, q6, q7⟩ := hbx.frees; clear hbx) | ((with_reducible refine use (aft1h 4 hkx hky hg2 hbg hb5) ?_); intro hA; have HA := Lib.hid hA; clear hA hb5)))
  all_goals
    clear e0 e1 e2 e3 e4 e5 e6 e7 f0 f1 f2 f3 f4 f5 f6 f7 hkx hky
    go_wp2_with fail
    exact HK.out _ _ _ _ _ _ _ _ _ _ _ _ _ _ _ HA
end Go.Proofs.YtpfhhdiipedklaaDoor
