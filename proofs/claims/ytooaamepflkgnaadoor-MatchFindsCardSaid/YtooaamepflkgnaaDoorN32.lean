/- Texts that a proof rests on: Contract of homographref02.Same. | Contracts of regex: Null, and slices.IndexFunc, ContainsFunc under it; Same, and slices.EqualFunc under it. -/
import Derived.Test.YtooaamepflkgnaaDoorN10
import Derived.Test.YtooaamepflkgnaaDoorN11
import Derived.Deep.RegionWith
import Derived.Deep.QuietTactic
set_option maxRecDepth 20000
namespace Go.Proofs.YtooaamepflkgnaaDoor
open Go.RowKit

theorem neq_set (s t : BitVec 256) (h : s ≠ t) (w : World) : (Op.equalIn 10000 25 (.agg #[.int .u64 (wd (s) 0), .int .u64 (wd (s) 1), .int .u64 (wd (s) 2), .int .u64 (wd (s) 3)]) (.agg #[.int .u64 (wd (t) 0), .int .u64 (wd (t) 1), .int .u64 (wd (t) 2), .int .u64 (wd (t) 3)])).run Tryd.prog w = .ok false w := by rw [eq_set]; simp [h]
end Go.Proofs.YtooaamepflkgnaaDoor
set_option maxRecDepth 20000
namespace Go.Proofs.YtooaamepflkgnaaDoor
open Go.RowKit

/-- What a function value answers of each of some patterns. -/
def Tells (f : Nat) (kids : List Pat) (P : Pat → Bool) : Prop := ∀ (i : Nat) (h : i < kids.length) (ks : Value) (w : World), Kids w kids[i].kids ks →
    Calls Tryd.prog f #[(.agg #[.int .i64 (kids[i]).op, .int .u64 (wd (kids[i]).set 0), .int .u64 (wd (kids[i]).set 1), .int .u64 (wd (kids[i]).set 2), .int .u64 (wd (kids[i]).set 3), .int .i64 (kids[i]).lo, .int .i64 (kids[i]).hi, ks])] w fun e w' => e = .returned (.bool (P kids[i])) ∧ Below w.heap.size w w'
theorem any_at {l : List Pat} {P : Pat → Bool} {k : Nat} (h : k < l.length) (hp : P l[k] = true) : l.any P = true := List.any_eq_true.2 ⟨_, List.getElem_mem h, hp⟩
theorem any_none {l : List Pat} {P : Pat → Bool} (h : ∀ i (hi : i < l.length), P l[i] = false) : l.any P = false := by
  rw [← Bool.not_eq_true, List.any_eq_true]
  rintro ⟨q, hq, hp⟩
  obtain ⟨i, hi, rfl⟩ := List.getElem_of_mem hq
  rw [h i hi] at hp; cases hp
set_option maxHeartbeats 2000000 in
theorem index_null (kids : List Pat) (ks : Value) (P : Pat → Bool) (HT : Hid (Tells 39 kids P)) (w : World) (hl : kids.length < 100000) (hk : Kids w kids ks) :
    Calls Tryd.prog 67 #[ks, .func (.func 39) #[] #[]] w fun e w' => (∃ n : Int, e = .returned (.int .i64 n) ∧ (decide (n ≥ 0)) = kids.any P) ∧ Below w.heap.size w w' := by
  obtain ⟨a, cap, rfl⟩ := hk.len
  go_enter Tryd.func67, Tryd.ntmps67
  go_wp2_with fail
  go_loopw [8] (fun i wr => ∃ k : Nat, k ≤ kids.length ∧ i = .int .i64 k ∧ Hid (∀ i (h : i < kids.length), i < k → P kids[i] = false) ∧ Below w.heap.size w wr) (fun i _ => kids.length - (intOf i).toNat)
  case atStart => exact ⟨0, by omega, rfl, fun i _ h => by omega, Below.refl _ _⟩
  case round =>
    obtain ⟨k, hkl, rfl, HP, hbw⟩ := hrel
    by_cases hlt : k < kids.length
    · obtain ⟨b1, o1, c1, e1, hr1⟩ := hk.row (by omega)
      cases e1
      obtain ⟨ks', hks, e0, e1, e2, e3, e4, e5, e6, e7⟩ := ((hr1.below hbw).at k hlt).load
      have HT1 := Lib.hid (HT.out k hlt ks')
      have HP2 : Hid (P kids[k] = false → ∀ i (h : i < kids.length), i < k + 1 → P kids[i] = false) := fun h i ha hi => by
        rcases Nat.lt_succ_iff_lt_or_eq.1 hi with h | rfl
        · exact HP.out i ha h
        · exact h
      have HA : Hid (P kids[k] = true → kids.any P = true) := any_at hlt
      clear HP
      generalize kids[k] = p' at *
      cases hq : P p'
      · have HQ := Lib.hid hq
        clear hq
        go_wp2_with (go_at_call 39; refine (HT1.out _ hks).mono ?_; rw [HQ.out]; rintro e w3 ⟨rfl, hb3⟩)
        go_roundw
        case rel => exact ⟨k + 1, by omega, num_succ k, HP2.out HQ.out, hbw.trans (hb3.mono hbw.size)⟩
        case measure => simp [intOf]; omega
      · have HQ := Lib.hid hq
        clear hq
        go_wp2_with (go_at_call 39; refine (HT1.out _ hks).mono ?_; rw [HQ.out]; rintro e w3 ⟨rfl, hb3⟩)
        go_ret
        exact ⟨⟨_, rfl, by rw [HA.out HQ.out]; simp⟩, hbw.trans (hb3.mono hbw.size)⟩
    · have HA : Hid (kids.any P = false) := any_none fun i hi => HP.out i hi (by omega)
      go_wp2_with fail
      go_ret
      exact ⟨⟨-1, rfl, by rw [HA.out]; rfl⟩, hbw⟩
set_option maxHeartbeats 2000000 in
theorem index_no (kids : List Pat) (ks : Value) (P : Pat → Bool) (HT : Hid (Tells 66 kids P)) (w : World) (hl : kids.length < 100000) (hk : Kids w kids ks) :
    Calls Tryd.prog 67 #[ks, .func (.func 66) #[] #[]] w fun e w' => (∃ n : Int, e = .returned (.int .i64 n) ∧ (decide (n ≥ 0)) = kids.any P) ∧ Below w.heap.size w w' := by
  obtain ⟨a, cap, rfl⟩ := hk.len
  go_enter Tryd.func67, Tryd.ntmps67
  go_wp2_with fail
  go_loopw [8] (fun i wr => ∃ k : Nat, k ≤ kids.length ∧ i = .int .i64 k ∧ Hid (∀ i (h : i < kids.length), i < k → P kids[i] = false) ∧ Below w.heap.size w wr) (fun i _ => kids.length - (intOf i).toNat)
  case atStart => exact ⟨0, by omega, rfl, fun i _ h => by omega, Below.refl _ _⟩
  case round =>
    obtain ⟨k, hkl, rfl, HP, hbw⟩ := hrel
    by_cases hlt : k < kids.length
    · obtain ⟨b1, o1, c1, e1, hr1⟩ := hk.row (by omega)
      cases e1
      obtain ⟨ks', hks, e0, e1, e2, e3, e4, e5, e6, e7⟩ := ((hr1.below hbw).at k hlt).load
      have HT1 := Lib.hid (HT.out k hlt ks')
      have HP2 : Hid (P kids[k] = false → ∀ i (h : i < kids.length), i < k + 1 → P kids[i] = false) := fun h i ha hi => by
        rcases Nat.lt_succ_iff_lt_or_eq.1 hi with h | rfl
        · exact HP.out i ha h
        · exact h
      have HA : Hid (P kids[k] = true → kids.any P = true) := any_at hlt
      clear HP
      generalize kids[k] = p' at *
      cases hq : P p'
      · have HQ := Lib.hid hq
        clear hq
        go_wp2_with (go_at_call 66; refine (HT1.out _ hks).mono ?_; rw [HQ.out]; rintro e w3 ⟨rfl, hb3⟩)
        go_roundw
        case rel => exact ⟨k + 1, by omega, num_succ k, HP2.out HQ.out, hbw.trans (hb3.mono hbw.size)⟩
        case measure => simp [intOf]; omega
      · have HQ := Lib.hid hq
        clear hq
        go_wp2_with (go_at_call 66; refine (HT1.out _ hks).mono ?_; rw [HQ.out]; rintro e w3 ⟨rfl, hb3⟩)
        go_ret
        exact ⟨⟨_, rfl, by rw [HA.out HQ.out]; simp⟩, hbw.trans (hb3.mono hbw.size)⟩
    · have HA : Hid (kids.any P = false) := any_none fun i hi => HP.out i hi (by omega)
      go_wp2_with fail
      go_ret
      exact ⟨⟨-1, rfl, by rw [HA.out]; rfl⟩, hbw⟩
set_option maxHeartbeats 1000000 in
theorem contains_null (kids : List Pat) (ks : Value) (P : Pat → Bool) (HT : Hid (Tells 39 kids P)) (w : World) (hl : kids.length < 100000) (hk : Kids w kids ks) :
    Calls Tryd.prog 52 #[ks, .func (.func 39) #[] #[]] w fun e w' => e = .returned (.bool (kids.any P)) ∧ Below w.heap.size w w' := by
  obtain ⟨a, cap, rfl⟩ := hk.len
  go_enter Tryd.func52, Tryd.ntmps52
  go_wp2_with (go_at_call 67; refine (index_null kids _ P HT _ hl hk).mono ?_; rintro e w2 ⟨⟨n, rfl, hn⟩, hb2⟩; have HN := Lib.hid hn; clear hn)
  go_ret
  refine ⟨?_, hb2⟩
  rw [← HN.out]
  first | rfl | (congr 2)
set_option maxHeartbeats 1000000 in
theorem contains_no (kids : List Pat) (ks : Value) (P : Pat → Bool) (HT : Hid (Tells 66 kids P)) (w : World) (hl : kids.length < 100000) (hk : Kids w kids ks) :
    Calls Tryd.prog 52 #[ks, .func (.func 66) #[] #[]] w fun e w' => e = .returned (.bool (kids.any P)) ∧ Below w.heap.size w w' := by
  obtain ⟨a, cap, rfl⟩ := hk.len
  go_enter Tryd.func52, Tryd.ntmps52
  go_wp2_with (go_at_call 67; refine (index_no kids _ P HT _ hl hk).mono ?_; rintro e w2 ⟨⟨n, rfl, hn⟩, hb2⟩; have HN := Lib.hid hn; clear hn)
  go_ret
  refine ⟨?_, hb2⟩
  rw [← HN.out]
  first | rfl | (congr 2)
set_option maxHeartbeats 1000000 in
theorem no_any (p : Pat) (ks : Value) (v : Bool) (w : World) (hk : Kids w p.kids ks) (HN : Hid (∀ (ks : Value) (w : World), Kids w p.kids ks → Calls Tryd.prog 39 #[(.agg #[.int .i64 p.op, .int .u64 (wd p.set 0), .int .u64 (wd p.set 1), .int .u64 (wd p.set 2), .int .u64 (wd p.set 3), .int .i64 p.lo, .int .i64 p.hi, ks])] w fun e w' => e = .returned (.bool v) ∧ Below w.heap.size w w')) :
    Calls Tryd.prog 66 #[(.agg #[.int .i64 p.op, .int .u64 (wd p.set 0), .int .u64 (wd p.set 1), .int .u64 (wd p.set 2), .int .u64 (wd p.set 3), .int .i64 p.lo, .int .i64 p.hi, ks])] w fun e w' => e = .returned (.bool (!v)) ∧ Below w.heap.size w w' := by
  obtain ⟨a, cap, rfl⟩ := hk.len
  have hal := (Below.refl w.heap.size w).alloc (Nat.le_refl _) (.cells #[.int .i64 p.op, .int .u64 (wd p.set 0), .int .u64 (wd p.set 1), .int .u64 (wd p.set 2), .int .u64 (wd p.set 3), .int .i64 p.lo, .int .i64 p.hi, .slice a p.kids.length cap] 28)
  have hk0 := hk.below hal
  go_enter Tryd.func66, Tryd.ntmps66
  go_wp2_with (go_at_call 39; refine (HN.out _ _ hk0).mono ?_; rintro e w2 ⟨rfl, hb2⟩)
  go_ret
  exact ⟨rfl, below_step hal hb2⟩
theorem all_none_any (l : List Pat) (P : Pat → Bool) : (!l.any (fun p => !P p)) = l.all P := by
  induction l with
  | nil => rfl
  | cons p ps ih => simp only [List.any_cons, List.all_cons, Bool.not_or, Bool.not_not, ih]
set_option maxHeartbeats 1000000 in
theorem allnull_any (kids : List Pat) (ks : Value) (P : Pat → Bool) (HT : Hid (Tells 39 kids P)) (w : World) (hl : kids.length < 100000) (hk : Kids w kids ks) :
    Calls Tryd.prog 51 #[ks] w fun e w' => e = .returned (.bool (kids.all P)) ∧ Below w.heap.size w w' := by
  have HT2 : Hid (Tells 66 kids (fun p => !P p)) := fun i h ks w hk => no_any kids[i] ks (P kids[i]) w hk (fun ks w hk => HT.out i h ks w hk)
  obtain ⟨a, cap, rfl⟩ := hk.len
  have HA := Lib.hid (all_none_any kids P)
  go_enter Tryd.func51, Tryd.ntmps51
  go_wp2_with (go_at_call 52; refine (contains_no kids _ _ HT2 _ hl hk).mono ?_; rintro e w2 ⟨rfl, hb2⟩)
  go_ret
  refine ⟨?_, hb2⟩
  rw [← HA.out]
  rfl
set_option maxHeartbeats 4000000 in
theorem null_any : ∀ (n : Nat) (p : Pat) (ks : Value) (w : World), p.size < n → n ≤ 100000 → Kids w p.kids ks →
    Calls Tryd.prog 39 #[(.agg #[.int .i64 p.op, .int .u64 (wd p.set 0), .int .u64 (wd p.set 1), .int .u64 (wd p.set 2), .int .u64 (wd p.set 3), .int .i64 p.lo, .int .i64 p.hi, ks])] w fun e w' => e = .returned (.bool p.nul) ∧ Below w.heap.size w w' := by
  intro n
  induction n with
  | zero => intro p ks w h; omega
  | succ n ih =>
    intro p ks w hn hmax hk
    have hse := size_eq p
    have hlen := length_sizes p.kids
    have HT : Hid (Tells 39 p.kids Pat.nul) := fun i h ks w hk => ih p.kids[i] ks w (by have := size_kid p.kids i h; omega) (by omega) hk
    clear ih
    obtain ⟨a, cap, rfl⟩ := hk.len
    have hal := (Below.refl w.heap.size w).alloc (Nat.le_refl _) (.cells #[.int .i64 p.op, .int .u64 (wd p.set 0), .int .u64 (wd p.set 1), .int .u64 (wd p.set 2), .int .u64 (wd p.set 3), .int .i64 p.lo, .int .i64 p.hi, .slice a p.kids.length cap] 28)
    have hk0 := hk.below hal
    have hsm : p.kids.length < 100000 := by omega
    clear hse hlen hn
    have HC2 := Lib.hid (nul_eq p)
    have HAL := Lib.hid (fun (ks : Value) (w : World) => allnull_any p.kids ks Pat.nul HT w hsm)
    have HON := Lib.hid (fun (ks : Value) (w : World) => contains_null p.kids ks Pat.nul HT w hsm)
    generalize hal' : p.kids.all Pat.nul = al at *
    generalize hon' : p.kids.any Pat.nul = on at *
    clear hal' hon' HT
    by_cases g1 : p.op = 1
    · have HR : Hid (p.nul = al) := by rw [Hid, HC2.out, g1]; rfl
      go_enter Tryd.func39, Tryd.ntmps39
      go_wp2_with (go_at_call 51; refine (HAL.out _ _ (by first | exact hk0 | simpa [g1] using hk0)).mono ?_; rintro e w2 ⟨rfl, hb2⟩)
      go_ret
      exact ⟨by rw [HR.out]; rfl, below_step (by first | exact hal | simpa [g1] using hal) hb2⟩
    by_cases g4 : p.op = 4
    · have HR : Hid (p.nul = al) := by rw [Hid, HC2.out, g4]; rfl
      go_enter Tryd.func39, Tryd.ntmps39
      go_wp2_with (go_at_call 51; refine (HAL.out _ _ (by first | exact hk0 | simpa [g4] using hk0)).mono ?_; rintro e w2 ⟨rfl, hb2⟩)
      go_ret
      exact ⟨by rw [HR.out]; rfl, below_step (by first | exact hal | simpa [g4] using hal) hb2⟩
    by_cases g2 : p.op = 2
    · have HR : Hid (p.nul = on) := by rw [Hid, HC2.out, g2]; rfl
      go_enter Tryd.func39, Tryd.ntmps39
      go_wp2_with (go_at_call 52; refine (HON.out _ _ (by first | exact hk0 | simpa [g2] using hk0)).mono ?_; rintro e w2 ⟨rfl, hb2⟩)
      go_ret
      exact ⟨by rw [HR.out]; rfl, below_step (by first | exact hal | simpa [g2] using hal) hb2⟩
    by_cases g3 : p.op = 3
    · by_cases gl : p.lo = 0
      · have HR : Hid (p.nul = true) := by rw [Hid, HC2.out, g3, gl]; rfl
        go_enter Tryd.func39, Tryd.ntmps39
        go_wp2_with fail
        go_ret
        exact ⟨by rw [HR.out]; rfl, (by first | exact hal | simpa [g3, gl] using hal)⟩
      · have gl2 : (p.lo == 0) = false := by simpa using gl
        have HR : Hid (p.nul = al) := by rw [Hid, HC2.out, g3, gl2]; rfl
        go_enter Tryd.func39, Tryd.ntmps39
        go_wp2_with (go_at_call 51; refine (HAL.out _ _ (by first | exact hk0 | simpa [g3] using hk0)).mono ?_; rintro e w2 ⟨rfl, hb2⟩)
        go_ret
        exact ⟨by rw [HR.out]; rfl, below_step (by first | exact hal | simpa [g3] using hal) hb2⟩
    by_cases g5 : p.op = 5
    · have HR : Hid (p.nul = !al) := by rw [Hid, HC2.out, g5]; rfl
      go_enter Tryd.func39, Tryd.ntmps39
      go_wp2_with (go_at_call 51; refine (HAL.out _ _ (by first | exact hk0 | simpa [g5] using hk0)).mono ?_; rintro e w2 ⟨rfl, hb2⟩)
      go_ret
      exact ⟨by rw [HR.out]; rfl, below_step (by first | exact hal | simpa [g5] using hal) hb2⟩
    · have HR : Hid (p.nul = false) := by rw [Hid, HC2.out, show (p.op == 1) = false by simpa using g1, show (p.op == 4) = false by simpa using g4, show (p.op == 2) = false by simpa using g2, show (p.op == 3) = false by simpa using g3, show (p.op == 5) = false by simpa using g5]; rfl
      go_enter Tryd.func39, Tryd.ntmps39
      go_wp2_with fail
      go_ret
      exact ⟨by rw [HR.out]; rfl, hal⟩
end Go.Proofs.YtooaamepflkgnaaDoor
