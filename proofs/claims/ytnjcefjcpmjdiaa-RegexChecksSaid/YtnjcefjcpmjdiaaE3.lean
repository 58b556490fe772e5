/- Contracts of regex: Null, and slices.IndexFunc, ContainsFunc under it; Same, and slices.EqualFunc under it. -/
import Derived.Test.YtnjcefjcpmjdiaaD5
import Derived.Test.YtnjcefjcpmjdiaaDA
set_option maxRecDepth 20000
namespace Go.Proofs.Ytnjcefjcpmjdiaa
open Go.RowKit

/-- What a function value answers of each of some patterns. -/
def Tells (f : Nat) (kids : List Pat) (P : Pat → Bool) : Prop := ∀ (i : Nat) (h : i < kids.length) (ks : Value) (w : World), Kids w kids[i].kids ks →
    Calls Try.prog f #[(.agg #[.int .i64 (kids[i]).op, .int .u64 (wd (kids[i]).set 0), .int .u64 (wd (kids[i]).set 1), .int .u64 (wd (kids[i]).set 2), .int .u64 (wd (kids[i]).set 3), .int .i64 (kids[i]).lo, .int .i64 (kids[i]).hi, ks])] w fun e w' => e = .returned (.bool (P kids[i])) ∧ Below w.heap.size w w'
theorem any_at {l : List Pat} {P : Pat → Bool} {k : Nat} (h : k < l.length) (hp : P l[k] = true) : l.any P = true := List.any_eq_true.2 ⟨_, List.getElem_mem h, hp⟩
theorem any_none {l : List Pat} {P : Pat → Bool} (h : ∀ i (hi : i < l.length), P l[i] = false) : l.any P = false := by
  rw [← Bool.not_eq_true, List.any_eq_true]
  rintro ⟨q, hq, hp⟩
  obtain ⟨i, hi, rfl⟩ := List.getElem_of_mem hq
  rw [h i hi] at hp; cases hp
set_option maxHeartbeats 2000000 in
theorem index_null (kids : List Pat) (ks : Value) (P : Pat → Bool) (HT : Hid (Tells 23 kids P)) (w : World) (hl : kids.length < 100000) (hk : Kids w kids ks) :
    Calls Try.prog 53 #[ks, .func (.func 23) #[] #[]] w fun e w' => (∃ n : Int, e = .returned (.int .i64 n) ∧ (decide (n ≥ 0)) = kids.any P) ∧ Below w.heap.size w w' := by
  obtain ⟨a, cap, rfl⟩ := hk.len
  go_enter Try.func53, Try.ntmps53
  go_wp2_with fail
  go_loopw [8] (fun i wr => ∃ k : Nat, k ≤ kids.length ∧ i = .int .i64 k ∧ Hid (∀ i (h : i < kids.length), i < k → P kids[i] = false) ∧ Below w.heap.size w wr) (fun i _ => kids.length - (intOf i).toNat)
  case atStart => exact ⟨0, by omega, rfl, fun i _ h => by omega, Below.refl _ _⟩
  case round =>
    obtain ⟨k, hkl, rfl, HP, hbw⟩ := hrel
    by_cases hlt : k < kids.length
    · obtain ⟨b1, o1, c1, e1, hr1⟩ := hk.row (by omega)
      cases e1
      obtain ⟨ks', hks, e0, e1, e2, e3, e4, e5, e6, e7⟩ := ((hr1.below hbw).at k hlt).load
      have HT1 := Lib.hid (HT.out k hlt ks')
      have HP2 : Hid (P kids[k] = false → ∀ i (h : i < kids.length), i < k + 1 → P kids[i] = false) := fun h i ha hi => by
        rcases Nat.lt_succ_iff_lt_or_eq.1 hi with h | rfl
        · exact HP.out i ha h
        · exact h
      have HA : Hid (P kids[k] = true → kids.any P = true) := any_at hlt
      clear HP
      generalize kids[k] = p' at *
      cases hq : P p'
      · have HQ := Lib.hid hq
        clear hq
        go_wp2_with (go_at_call 23; refine (HT1.out _ hks).mono ?_; rw [HQ.out]; rintro e w3 ⟨rfl, hb3⟩)
        go_roundw
        case rel => exact ⟨k + 1, by omega, num_succ k, HP2.out HQ.out, hbw.trans (hb3.mono hbw.size)⟩
        case measure => simp [intOf]; omega
      · have HQ := Lib.hid hq
        clear hq
        go_wp2_with (go_at_call 23; refine (HT1.out _ hks).mono ?_; rw [HQ.out]; rintro e w3 ⟨rfl, hb3⟩)
        go_ret
        exact ⟨⟨_, rfl, by rw [HA.out HQ.out]; simp⟩, hbw.trans (hb3.mono hbw.size)⟩
    · have HA : Hid (kids.any P = false) := any_none fun i hi => HP.out i hi (by omega)
      go_wp2_with fail
      go_ret
      exact ⟨⟨-1, rfl, by rw [HA.out]; rfl⟩, hbw⟩
set_option maxHeartbeats 2000000 in
theorem index_no (kids : List Pat) (ks : Value) (P : Pat → Bool) (HT : Hid (Tells 52 kids P)) (w : World) (hl : kids.length < 100000) (hk : Kids w kids ks) :
    Calls Try.prog 53 #[ks, .func (.func 52) #[] #[]] w fun e w' => (∃ n : Int, e = .returned (.int .i64 n) ∧ (decide (n ≥ 0)) = kids.any P) ∧ Below w.heap.size w w' := by
  obtain ⟨a, cap, rfl⟩ := hk.len
  go_enter Try.func53, Try.ntmps53
  go_wp2_with fail
  go_loopw [8] (fun i wr => ∃ k : Nat, k ≤ kids.length ∧ i = .int .i64 k ∧ Hid (∀ i (h : i < kids.length), i < k → P kids[i] = false) ∧ Below w.heap.size w wr) (fun i _ => kids.length - (intOf i).toNat)
  case atStart => exact ⟨0, by omega, rfl, fun i _ h => by omega, Below.refl _ _⟩
  case round =>
    obtain ⟨k, hkl, rfl, HP, hbw⟩ := hrel
    by_cases hlt : k < kids.length
    · obtain ⟨b1, o1, c1, e1, hr1⟩ := hk.row (by omega)
      cases e1
      obtain ⟨ks', hks, e0, e1, e2, e3, e4, e5, e6, e7⟩ := ((hr1.below hbw).at k hlt).load
      have HT1 := Lib.hid (HT.out k hlt ks')
      have HP2 : Hid (P kids[k] = false → ∀ i (h : i < kids.length), i < k + 1 → P kids[i] = false) := fun h i ha hi => by
        rcases Nat.lt_succ_iff_lt_or_eq.1 hi with h | rfl
        · exact HP.out i ha h
        · exact h
      have HA : Hid (P kids[k] = true → kids.any P = true) := any_at hlt
      clear HP
      generalize kids[k] = p' at *
      cases hq : P p'
      · have HQ := Lib.hid hq
        clear hq
        go_wp2_with (go_at_call 52; refine (HT1.out _ hks).mono ?_; rw [HQ.out]; rintro e w3 ⟨rfl, hb3⟩)
        go_roundw
        case rel => exact ⟨k + 1, by omega, num_succ k, HP2.out HQ.out, hbw.trans (hb3.mono hbw.size)⟩
        case measure => simp [intOf]; omega
      · have HQ := Lib.hid hq
        clear hq
        go_wp2_with (go_at_call 52; refine (HT1.out _ hks).mono ?_; rw [HQ.out]; rintro e w3 ⟨rfl, hb3⟩)
        go_ret
        exact ⟨⟨_, rfl, by rw [HA.out HQ.out]; simp⟩, hbw.trans (hb3.mono hbw.size)⟩
    · have HA : Hid (kids.any P = false) := any_none fun i hi => HP.out i hi (by omega)
      go_wp2_with fail
      go_ret
      exact ⟨⟨-1, rfl, by rw [HA.out]; rfl⟩, hbw⟩
set_option maxHeartbeats 1000000 in
theorem contains_null (kids : List Pat) (ks : Value) (P : Pat → Bool) (HT : Hid (Tells 23 kids P)) (w : World) (hl : kids.length < 100000) (hk : Kids w kids ks) :
    Calls Try.prog 41 #[ks, .func (.func 23) #[] #[]] w fun e w' => e = .returned (.bool (kids.any P)) ∧ Below w.heap.size w w' := by
  obtain ⟨a, cap, rfl⟩ := hk.len
  go_enter Try.func41, Try.ntmps41
  go_wp2_with (go_at_call 53; refine (index_null kids _ P HT _ hl hk).mono ?_; rintro e w2 ⟨⟨n, rfl, hn⟩, hb2⟩; have HN := Lib.hid hn; clear hn)
  go_ret
  refine ⟨?_, hb2⟩
  rw [← HN.out]
  first | rfl | (congr 2)
set_option maxHeartbeats 1000000 in
theorem contains_no (kids : List Pat) (ks : Value) (P : Pat → Bool) (HT : Hid (Tells 52 kids P)) (w : World) (hl : kids.length < 100000) (hk : Kids w kids ks) :
    Calls Try.prog 41 #[ks, .func (.func 52) #[] #[]] w fun e w' => e = .returned (.bool (kids.any P)) ∧ Below w.heap.size w w' := by
  obtain ⟨a, cap, rfl⟩ := hk.len
  go_enter Try.func41, Try.ntmps41
  go_wp2_with (go_at_call 53; refine (index_no kids _ P HT _ hl hk).mono ?_; rintro e w2 ⟨⟨n, rfl, hn⟩, hb2⟩; have HN := Lib.hid hn; clear hn)
  go_ret
  refine ⟨?_, hb2⟩
  rw [← HN.out]
  first | rfl | (congr 2)
set_option maxHeartbeats 1000000 in
theorem no_any (p : Pat) (ks : Value) (v : Bool) (w : World) (hk : Kids w p.kids ks) (HN : Hid (∀ (ks : Value) (w : World), Kids w p.kids ks → Calls Try.prog 23 #[(.agg #[.int .i64 p.op, .int .u64 (wd p.set 0), .int .u64 (wd p.set 1), .int .u64 (wd p.set 2), .int .u64 (wd p.set 3), .int .i64 p.lo, .int .i64 p.hi, ks])] w fun e w' => e = .returned (.bool v) ∧ Below w.heap.size w w')) :
    Calls Try.prog 52 #[(.agg #[.int .i64 p.op, .int .u64 (wd p.set 0), .int .u64 (wd p.set 1), .int .u64 (wd p.set 2), .int .u64 (wd p.set 3), .int .i64 p.lo, .int .i64 p.hi, ks])] w fun e w' => e = .returned (.bool (!v)) ∧ Below w.heap.size w w' := by
  obtain ⟨a, cap, rfl⟩ := hk.len
  have hal := (Below.refl w.heap.size w).alloc (Nat.le_refl _) (.cells #[.int .i64 p.op, .int .u64 (wd p.set 0), .int .u64 (wd p.set 1), .int .u64 (wd p.set 2), .int .u64 (wd p.set 3), .int .i64 p.lo, .int .i64 p.hi, .slice a p.kids.length cap] 28)
  have hk0 := hk.below hal
  go_enter Try.func52, Try.ntmps52
  go_wp2_with (go_at_call 23; refine (HN.out _ _ hk0).mono ?_; rintro e w2 ⟨rfl, hb2⟩)
  go_ret
  exact ⟨rfl, below_step hal hb2⟩
theorem all_any (l : List Pat) (P : Pat → Bool) : (!l.any (fun p => !P p)) = l.all P := by
  induction l with
  | nil => rfl
  | cons p ps ih => simp only [List.any_cons, List.all_cons, Bool.not_or, Bool.not_not, ih]
set_option maxHeartbeats 1000000 in
theorem allnull_any (kids : List Pat) (ks : Value) (P : Pat → Bool) (HT : Hid (Tells 23 kids P)) (w : World) (hl : kids.length < 100000) (hk : Kids w kids ks) :
    Calls Try.prog 40 #[ks] w fun e w' => e = .returned (.bool (kids.all P)) ∧ Below w.heap.size w w' := by
  have HT2 : Hid (Tells 52 kids (fun p => !P p)) := fun i h ks w hk => no_any kids[i] ks (P kids[i]) w hk (fun ks w hk => HT.out i h ks w hk)
  obtain ⟨a, cap, rfl⟩ := hk.len
  have HA := Lib.hid (all_any kids P)
  go_enter Try.func40, Try.ntmps40
  go_wp2_with (go_at_call 41; refine (contains_no kids _ _ HT2 _ hl hk).mono ?_; rintro e w2 ⟨rfl, hb2⟩)
  go_ret
  refine ⟨?_, hb2⟩
  rw [← HA.out]
  rfl
set_option maxHeartbeats 4000000 in
theorem null_any : ∀ (n : Nat) (p : Pat) (ks : Value) (w : World), p.size < n → n ≤ 100000 → Kids w p.kids ks →
    Calls Try.prog 23 #[(.agg #[.int .i64 p.op, .int .u64 (wd p.set 0), .int .u64 (wd p.set 1), .int .u64 (wd p.set 2), .int .u64 (wd p.set 3), .int .i64 p.lo, .int .i64 p.hi, ks])] w fun e w' => e = .returned (.bool p.nul) ∧ Below w.heap.size w w' := by
  intro n
  induction n with
  | zero => intro p ks w h; omega
  | succ n ih =>
    intro p ks w hn hmax hk
    have hse := size_eq p
    have hlen := length_sizes p.kids
    have HT : Hid (Tells 23 p.kids Pat.nul) := fun i h ks w hk => ih p.kids[i] ks w (by have := size_kid p.kids i h; omega) (by omega) hk
    clear ih
    obtain ⟨a, cap, rfl⟩ := hk.len
    have hal := (Below.refl w.heap.size w).alloc (Nat.le_refl _) (.cells #[.int .i64 p.op, .int .u64 (wd p.set 0), .int .u64 (wd p.set 1), .int .u64 (wd p.set 2), .int .u64 (wd p.set 3), .int .i64 p.lo, .int .i64 p.hi, .slice a p.kids.length cap] 28)
    have hk0 := hk.below hal
    have hsm : p.kids.length < 100000 := by omega
    clear hse hlen hn
    have HC2 := Lib.hid (nul_eq p)
    have HAL := Lib.hid (fun (ks : Value) (w : World) => allnull_any p.kids ks Pat.nul HT w hsm)
    have HON := Lib.hid (fun (ks : Value) (w : World) => contains_null p.kids ks Pat.nul HT w hsm)
    generalize hal' : p.kids.all Pat.nul = al at *
    generalize hon' : p.kids.any Pat.nul = on at *
    clear hal' hon' HT
    by_cases g1 : p.op = 1
    · have HR : Hid (p.nul = al) := by rw [Hid, HC2.out, g1]; rfl
      go_enter Try.func23, Try.ntmps23
      go_wp2_with (go_at_call 40; refine (HAL.out _ _ (by first | exact hk0 | simpa [g1] using hk0)).mono ?_; rintro e w2 ⟨rfl, hb2⟩)
      go_ret
      exact ⟨by rw [HR.out]; rfl, below_step (by first | exact hal | simpa [g1] using hal) hb2⟩
    by_cases g4 : p.op = 4
    · have HR : Hid (p.nul = al) := by rw [Hid, HC2.out, g4]; rfl
      go_enter Try.func23, Try.ntmps23
      go_wp2_with (go_at_call 40; refine (HAL.out _ _ (by first | exact hk0 | simpa [g4] using hk0)).mono ?_; rintro e w2 ⟨rfl, hb2⟩)
      go_ret
      exact ⟨by rw [HR.out]; rfl, below_step (by first | exact hal | simpa [g4] using hal) hb2⟩
    by_cases g2 : p.op = 2
    · have HR : Hid (p.nul = on) := by rw [Hid, HC2.out, g2]; rfl
      go_enter Try.func23, Try.ntmps23
      go_wp2_with (go_at_call 41; refine (HON.out _ _ (by first | exact hk0 | simpa [g2] using hk0)).mono ?_; rintro e w2 ⟨rfl, hb2⟩)
      go_ret
      exact ⟨by rw [HR.out]; rfl, below_step (by first | exact hal | simpa [g2] using hal) hb2⟩
    by_cases g3 : p.op = 3
    · by_cases gl : p.lo = 0
      · have HR : Hid (p.nul = true) := by rw [Hid, HC2.out, g3, gl]; rfl
        go_enter Try.func23, Try.ntmps23
        go_wp2_with fail
        go_ret
        exact ⟨by rw [HR.out]; rfl, (by first | exact hal | simpa [g3, gl] using hal)⟩
      · have gl2 : (p.lo == 0) = false := by simpa using gl
        have HR : Hid (p.nul = al) := by rw [Hid, HC2.out, g3, gl2]; rfl
        go_enter Try.func23, Try.ntmps23
        go_wp2_with (go_at_call 40; refine (HAL.out _ _ (by first | exact hk0 | simpa [g3] using hk0)).mono ?_; rintro e w2 ⟨rfl, hb2⟩)
        go_ret
        exact ⟨by rw [HR.out]; rfl, below_step (by first | exact hal | simpa [g3] using hal) hb2⟩
    by_cases g5 : p.op = 5
    · have HR : Hid (p.nul = !al) := by rw [Hid, HC2.out, g5]; rfl
      go_enter Try.func23, Try.ntmps23
      go_wp2_with (go_at_call 40; refine (HAL.out _ _ (by first | exact hk0 | simpa [g5] using hk0)).mono ?_; rintro e w2 ⟨rfl, hb2⟩)
      go_ret
      exact ⟨by rw [HR.out]; rfl, below_step (by first | exact hal | simpa [g5] using hal) hb2⟩
    · have HR : Hid (p.nul = false) := by rw [Hid, HC2.out, show (p.op == 1) = false by simpa using g1, show (p.op == 4) = false by simpa using g4, show (p.op == 2) = false by simpa using g2, show (p.op == 3) = false by simpa using g3, show (p.op == 5) = false by simpa using g5]; rfl
      go_enter Try.func23, Try.ntmps23
      go_wp2_with fail
      go_ret
      exact ⟨by rw [HR.out]; rfl, hal⟩
/-- What Same answers of each pair of two rows. -/
def TellsTwo (a b : List Pat) : Prop := ∀ (i : Nat) (ha : i < a.length) (hb : i < b.length) (ks js : Value) (w : World), Kids w a[i].kids ks → Kids w b[i].kids js →
    Calls Try.prog 10 #[(.agg #[.int .i64 (a[i]).op, .int .u64 (wd (a[i]).set 0), .int .u64 (wd (a[i]).set 1), .int .u64 (wd (a[i]).set 2), .int .u64 (wd (a[i]).set 3), .int .i64 (a[i]).lo, .int .i64 (a[i]).hi, ks]), (.agg #[.int .i64 (b[i]).op, .int .u64 (wd (b[i]).set 0), .int .u64 (wd (b[i]).set 1), .int .u64 (wd (b[i]).set 2), .int .u64 (wd (b[i]).set 3), .int .i64 (b[i]).lo, .int .i64 (b[i]).hi, js])] w fun e w' => e = .returned (.bool (a[i].same b[i])) ∧ Below w.heap.size w w'
set_option maxHeartbeats 2000000 in
theorem equal_any (kids jids : List Pat) (ks js : Value) (HT : Hid (TellsTwo kids jids)) (w : World) (hl : kids.length < 100000) (hk : Kids w kids ks) (hj : Kids w jids js) :
    Calls Try.prog 37 #[ks, js, .func (.func 10) #[] #[]] w fun e w' => e = .returned (.bool (sameL kids jids)) ∧ Below w.heap.size w w' := by
  obtain ⟨a, cap, rfl⟩ := hk.len
  obtain ⟨b, cbp, rfl⟩ := hj.len
  by_cases h5 : kids.length = jids.length
  rotate_left
  · have HR : Hid (sameL kids jids = false) := sameL_length _ _ h5
    go_enter Try.func37, Try.ntmps37
    go_wp2_with fail
    go_ret
    exact ⟨by rw [HR.out]; rfl, Below.refl _ _⟩
  have HJ : Hid (jids.length = kids.length) := h5.symm
  rw [← h5]
  rw [← h5] at hj
  clear h5
  go_enter Try.func37, Try.ntmps37
  go_wp2_with fail
  go_loopw [17] (fun i wr => ∃ k : Nat, k ≤ kids.length ∧ i = .int .i64 k ∧ Hid (∀ i (ha : i < kids.length) (hb : i < jids.length), i < k → kids[i].same jids[i] = true) ∧ Below w.heap.size w wr) (fun i _ => kids.length - (intOf i).toNat)
  case atStart => exact ⟨0, by omega, rfl, fun i _ _ h => by omega, Below.refl _ _⟩
  case round =>
    obtain ⟨k, hkl, rfl, HP, hbw⟩ := hrel
    by_cases hlt : k < kids.length
    · obtain ⟨b1, o1, c1, e1, hr1⟩ := hk.row (by omega)
      obtain ⟨b2, o2, c2, e2, hr2⟩ := hj.row (by have := HJ.out; omega)
      cases e1
      rw [HJ.out] at e2
      cases e2
      have hlt2 : k < jids.length := by have := HJ.out; omega
      obtain ⟨ks', hks, e0, e1, e2, e3, e4, e5, e6, e7⟩ := ((hr1.below hbw).at k hlt).load
      obtain ⟨js', hjs, f0, f1, f2, f3, f4, f5, f6, f7⟩ := ((hr2.below hbw).at k hlt2).load
      have HTT := Lib.hid (sameL_false kids jids k hlt hlt2)
      have HT1 := Lib.hid (HT.out k hlt hlt2 ks' js')
      have HP2 : Hid (kids[k].same jids[k] = true → ∀ i (ha : i < kids.length) (hb : i < jids.length), i < k + 1 → kids[i].same jids[i] = true) := fun h i ha hb hi => by
        rcases Nat.lt_succ_iff_lt_or_eq.1 hi with h | rfl
        · exact HP.out i ha hb h
        · exact h
      clear HP
      generalize kids[k] = p' at *
      generalize jids[k] = q' at *
      obtain ⟨ka, kc, rfl⟩ := hks.len
      obtain ⟨ja, jc, rfl⟩ := hjs.len
      have h1 := ((hr2.below hbw).below ((Below.refl wr.heap.size wr).alloc (Nat.le_refl _) (.cells #[.int .i64 p'.op, .int .u64 (wd p'.set 0), .int .u64 (wd p'.set 1), .int .u64 (wd p'.set 2), .int .u64 (wd p'.set 3), .int .i64 p'.lo, .int .i64 p'.hi, .slice ka p'.kids.length kc] 28))).at k hlt2
      have hal2 := below2 wr (.cells #[.int .i64 p'.op, .int .u64 (wd p'.set 0), .int .u64 (wd p'.set 1), .int .u64 (wd p'.set 2), .int .u64 (wd p'.set 3), .int .i64 p'.lo, .int .i64 p'.hi, .slice ka p'.kids.length kc] 28) (.cells #[.int .i64 q'.op, .int .u64 (wd q'.set 0), .int .u64 (wd q'.set 1), .int .u64 (wd q'.set 2), .int .u64 (wd q'.set 3), .int .i64 q'.lo, .int .i64 q'.hi, .slice ja q'.kids.length jc] 28)
      have hb1 := cell_lt f0
      have hks2 := hks.below hal2
      have hjs2 := hjs.below hal2
      clear h1
      cases hq : p'.same q'
      · have HQ := Lib.hid hq
        clear hq
        go_wp2_with (go_at_call 10; refine (HT1.out _ hks2 hjs2).mono ?_; rw [HQ.out]; rintro e w3 ⟨rfl, hb3⟩)
        go_ret
        exact ⟨by rw [HTT.out HQ.out]; rfl, below_step (below_step hbw hal2) hb3⟩
      · have HQ := Lib.hid hq
        clear hq
        go_wp2_with (go_at_call 10; refine (HT1.out _ hks2 hjs2).mono ?_; rw [HQ.out]; rintro e w3 ⟨rfl, hb3⟩)
        go_roundw
        case rel => exact ⟨k + 1, by omega, num_succ k, HP2.out HQ.out, below_step (below_step hbw hal2) hb3⟩
        case measure => simp [intOf]; omega
    · have HF : Hid (sameL kids jids = true) := sameL_true _ _ HJ.out.symm fun i ha hb => HP.out i ha hb (by omega)
      go_wp2_with fail
      go_ret
      exact ⟨by rw [HF.out]; rfl, hbw⟩
set_option maxHeartbeats 4000000 in
theorem same_any : ∀ (n : Nat) (p q : Pat) (ks js : Value) (w : World), p.size < n → n ≤ 100000 → Kids w p.kids ks → Kids w q.kids js →
    Calls Try.prog 10 #[(.agg #[.int .i64 p.op, .int .u64 (wd p.set 0), .int .u64 (wd p.set 1), .int .u64 (wd p.set 2), .int .u64 (wd p.set 3), .int .i64 p.lo, .int .i64 p.hi, ks]), (.agg #[.int .i64 q.op, .int .u64 (wd q.set 0), .int .u64 (wd q.set 1), .int .u64 (wd q.set 2), .int .u64 (wd q.set 3), .int .i64 q.lo, .int .i64 q.hi, js])] w fun e w' => e = .returned (.bool (p.same q)) ∧ Below w.heap.size w w' := by
  intro n
  induction n with
  | zero => intro p q ks js w h; omega
  | succ n ih =>
    intro p q ks js w hn hmax hk hj
    have hse := size_eq p
    have hlen := length_sizes p.kids
    have HT : Hid (TellsTwo p.kids q.kids) := fun i ha hb ks js w hk hj => ih p.kids[i] q.kids[i] ks js w (by have := size_kid p.kids i ha; omega) (by omega) hk hj
    clear ih
    obtain ⟨a, cap, rfl⟩ := hk.len
    obtain ⟨b, cbp, rfl⟩ := hj.len
    have hsm : p.kids.length < 100000 := by omega
    have HSm := Lib.hid (same_eq p q)
    have hal := below2 w (.cells #[.int .i64 p.op, .int .u64 (wd p.set 0), .int .u64 (wd p.set 1), .int .u64 (wd p.set 2), .int .u64 (wd p.set 3), .int .i64 p.lo, .int .i64 p.hi, .slice a p.kids.length cap] 28) (.cells #[.int .i64 q.op, .int .u64 (wd q.set 0), .int .u64 (wd q.set 1), .int .u64 (wd q.set 2), .int .u64 (wd q.set 3), .int .i64 q.lo, .int .i64 q.hi, .slice b q.kids.length cbp] 28)
    clear hse hlen hn
    by_cases h1 : p.op = q.op
    rotate_left
    · have HR : Hid (p.same q = false) := by rw [Hid, HSm.out]; simp [h1]
      go_enter Try.func10, Try.ntmps10
      go_wp2_with fail
      go_ret
      exact ⟨by rw [HR.out]; rfl, hal⟩
    by_cases h2 : p.set = q.set
    rotate_left
    · have HR : Hid (p.same q = false) := by rw [Hid, HSm.out]; simp [h2]
      have hq2 := neq_set _ _ h2
      go_enter Try.func10, Try.ntmps10
      go_wp2_with fail
      go_ret
      exact ⟨by rw [HR.out]; rfl, below2 _ _ _⟩
    by_cases h3 : p.lo = q.lo
    rotate_left
    · have HR : Hid (p.same q = false) := by rw [Hid, HSm.out]; simp [h3]
      have hq2 := eq_set_same p.set
      rw [← h2]
      clear h2 HSm hal
      go_enter Try.func10, Try.ntmps10
      go_wp2_with fail
      go_ret
      exact ⟨by rw [HR.out]; rfl, below2 _ _ _⟩
    by_cases h4 : p.hi = q.hi
    rotate_left
    · have HR : Hid (p.same q = false) := by rw [Hid, HSm.out]; simp [h4]
      have hq2 := eq_set_same p.set
      rw [← h2]
      clear h2 HSm hal
      go_enter Try.func10, Try.ntmps10
      go_wp2_with fail
      go_ret
      exact ⟨by rw [HR.out]; rfl, below2 _ _ _⟩
    have HR : Hid (p.same q = sameL p.kids q.kids) := by rw [Hid, HSm.out]; simp [h1, h2, h3, h4]
    have hq2 := eq_set_same p.set
    rw [← h1, ← h2, ← h3, ← h4]
    rw [← h1, ← h2, ← h3, ← h4] at hal
    clear h1 h2 h3 h4 HSm
    have hk0 := hk.below hal
    have hj0 := hj.below hal
    go_enter Try.func10, Try.ntmps10
    go_wp2_with (go_at_call 37; refine (equal_any p.kids q.kids _ _ HT _ hsm hk0 hj0).mono ?_; rintro e w2 ⟨rfl, hb2⟩)
    go_ret
    exact ⟨by rw [HR.out]; rfl, below_step hal hb2⟩
end Go.Proofs.Ytnjcefjcpmjdiaa
