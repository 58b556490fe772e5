/- Contracts of homographref02: may, Check. -/
import Derived.Test.YtnjcefjcpmjdiaaD3
import Derived.Test.YtnjcefjcpmjdiaaB1
set_option maxRecDepth 20000
namespace Go.Proofs.Ytnjcefjcpmjdiaa
open Go.RowKit

theorem okN_iff (op lo hi : Int) (n : Nat) : okN op lo hi n = true ↔ (0 ≤ op ∧ op ≤ 5 ∧ (op = 0 → n = 0) ∧ (op = 3 ∨ op = 5 → n = 1) ∧ 0 ≤ lo ∧ lo ≤ 32 ∧ hi ≤ 32 ∧ (0 ≤ hi → lo ≤ hi)) := decide_eq_true_iff
theorem okN_not (op lo hi : Int) (n : Nat) (h : ¬ (0 ≤ op ∧ op ≤ 5 ∧ (op = 0 → n = 0) ∧ (op = 3 ∨ op = 5 → n = 1) ∧ 0 ≤ lo ∧ lo ≤ 32 ∧ hi ≤ 32 ∧ (0 ≤ hi → lo ≤ hi))) : okN op lo hi n = false := decide_eq_false h
set_option maxHeartbeats 8000000 in
theorem rmay_any : ∀ (n : Nat) (p : Pat) (d : Nat) (ks : Value) (w : World), p.size < n → n ≤ 100000 → d + n ≤ 200000 → Kids w p.kids ks →
    Calls Try.prog 48 #[(.agg #[.int .i64 p.op, .int .u64 (wd p.set 0), .int .u64 (wd p.set 1), .int .u64 (wd p.set 2), .int .u64 (wd p.set 3), .int .i64 p.lo, .int .i64 p.hi, ks]), .int .i64 d] w fun e w' => e = .returned (.bool (p.fit d)) ∧ Below w.heap.size w w' := by
  intro n
  induction n with
  | zero => intro p d ks w h; omega
  | succ n ih =>
    intro p d ks w hn hmax hd hk
    have hse := size_eq p
    have hlen := length_sizes p.kids
    have IH := Lib.hid ih
    clear ih
    have hl : ∃ a cap, ks = .slice a p.kids.length cap := by
      rcases hk with ⟨e, a, cap, rfl⟩ | ⟨b, o, cap, rfl, hr⟩
      · exact ⟨a, cap, by rw [e]; rfl⟩
      · exact ⟨_, _, rfl⟩
    obtain ⟨a, cap, rfl⟩ := hl
    have HF := Lib.hid (fit_eq p d)
    by_cases h1 : 64 < d
    · have HR : Hid (p.fit d = false) := by rw [Hid, HF.out]; simp [show ¬ d ≤ 64 by omega]
      have h1' : (64 : Int) < (d : Int) := by omega
      go_enter Try.func48, Try.ntmps48
      go_wp2_with fail
      go_ret
      exact ⟨by rw [HR.out]; rfl, (Below.refl _ _).alloc (Nat.le_refl _) _⟩
    have h1' : ¬ (64 : Int) < (d : Int) := by omega
    have hno : ∀ {H : Prop}, (okN p.op p.lo p.hi p.kids.length = false) → Hid (p.fit d = false) := by
      intro _ h; rw [Hid, HF.out, h]; simp
    by_cases h2 : p.op < 0
    · have HR : Hid (p.fit d = false) := hno (H := True) (okN_not _ _ _ _ (by omega))
      clear hno HF
      go_enter Try.func48, Try.ntmps48
      go_wp2_with fail
      go_ret
      exact ⟨by rw [HR.out]; rfl, (Below.refl _ _).alloc (Nat.le_refl _) _⟩
    by_cases h3 : 5 < p.op
    · have HR : Hid (p.fit d = false) := hno (H := True) (okN_not _ _ _ _ (by omega))
      clear hno HF
      go_enter Try.func48, Try.ntmps48
      go_wp2_with fail
      go_ret
      exact ⟨by rw [HR.out]; rfl, (Below.refl _ _).alloc (Nat.le_refl _) _⟩
    by_cases hok : okN p.op p.lo p.hi p.kids.length = true
    · have hok' := (okN_iff _ _ _ _).1 hok
      have HR : Hid (p.fit d = p.kids.all (fun q => q.fit (d + 1))) := by rw [Hid, HF.out, hok, show decide (d ≤ 64) = true by simp; omega]; simp
      clear hno HF hok
      obtain ⟨q1, q2, q3, q4, q5, q6, q7, q8⟩ := hok'
      have hcase : (p.op = 0 ∧ p.kids.length = 0) ∨ p.op = 1 ∨ p.op = 2 ∨ (p.op = 3 ∧ p.kids.length = 1) ∨ p.op = 4 ∨ (p.op = 5 ∧ p.kids.length = 1) := by omega
      have hcase2 : (p.hi < 0) ∨ (0 ≤ p.hi ∧ ¬ p.hi < p.lo) := by omega
      have hlo1 : ¬ p.lo < 0 := by omega
      have hlo2 : ¬ 32 < p.lo := by omega
      have hhi : ¬ 32 < p.hi := by omega
      clear q1 q2 q3 q4 q5 q6 q7 q8
      have hd2 : d ≤ 64 := by omega
      have hsm : p.kids.length < 100000 := by omega
      have HSM : Hid (∀ k (h : k < p.kids.length), p.kids[k].size < n) := fun k h => by have := size_kid p.kids k h; omega
      have HT : Hid (∀ k (h : k < p.kids.length), p.kids[k].fit (d + 1) = false → p.kids.all (fun q => q.fit (d + 1)) = false) := fun k h e => by
        rw [← Bool.not_eq_true, List.all_eq_true]; intro H; rw [H _ (List.getElem_mem h)] at e; cases e
      generalize hkk : p.kids = kids at *
      clear hse hlen hkk
      rcases hcase with ⟨g1, g2⟩ | hcase
      · have HE : Hid (kids.all (fun q => q.fit (d + 1)) = true) := by rw [Hid, List.length_eq_zero_iff.1 g2]; rfl
        clear HT HSM
        rcases hcase2 with g3 | ⟨g3, g4⟩
        all_goals
          go_enter Try.func48, Try.ntmps48
          go_wp2_with fail
          refine wp_loop_rounds 1 ?_
          rw [rounds_succ]; go_wp2_with fail
          go_ret
          exact ⟨by rw [HR.out, HE.out]; rfl, (Below.refl _ _).alloc (Nat.le_refl _) _⟩
      rcases hcase with g1 | g1 | ⟨g1, g2⟩ | g1 | ⟨g1, g2⟩ <;> rcases hcase2 with g3 | ⟨g3, g4⟩
      all_goals
        go_enter Try.func48, Try.ntmps48
        go_wp2_with fail
        go_loopw [5] (fun i wr => ∃ k : Nat, k ≤ kids.length ∧ i = .int .i64 k ∧ Hid (∀ i (ha : i < kids.length), i < k → kids[i].fit (d + 1) = true) ∧ wr.cell? ⟨w.heap.size, 7, none⟩ = some (.slice a kids.length cap) ∧ Below w.heap.size w wr) (fun i _ => kids.length - (intOf i).toNat)
        case atStart => exact ⟨0, by omega, rfl, fun i _ h => by omega, by simp [*], (Below.refl _ _).alloc (Nat.le_refl _) _⟩
        case round =>
          obtain ⟨k, hkl, rfl, HP, hc7, hbw⟩ := hrel
          by_cases hlt : k < kids.length
          · obtain ⟨b1, o1, c1, e1, hr1⟩ := hk.row (by omega)
            cases e1
            obtain ⟨ks', hks, e0, e1, e2, e3, e4, e5, e6, e7⟩ := ((hr1.below hbw).at k hlt).load
            have HS1 := Lib.hid (HSM.out k hlt)
            have HT1 := Lib.hid (HT.out k hlt)
            have HP2 : Hid (kids[k].fit (d + 1) = true → ∀ i (ha : i < kids.length), i < k + 1 → kids[i].fit (d + 1) = true) := fun h i ha hi => by
              rcases Nat.lt_succ_iff_lt_or_eq.1 hi with h | rfl
              · exact HP.out i ha h
              · exact h
            clear HP
            generalize kids[k] = p' at *
            cases hq : p'.fit (d + 1)
            · have HQ := Lib.hid hq
              clear hq
              go_wp2_with (go_at_call 48; refine (IH.out p' (d + 1) ks' _ HS1.out (by omega) (by omega) hks).mono ?_; rw [HQ.out]; rintro e w3 ⟨rfl, hb3⟩)
              go_ret
              exact ⟨by rw [HR.out, HT1.out HQ.out]; rfl, hbw.trans (hb3.mono hbw.size)⟩
            · have HQ := Lib.hid hq
              clear hq
              go_wp2_with (go_at_call 48; refine (IH.out p' (d + 1) ks' _ HS1.out (by omega) (by omega) hks).mono ?_; rw [HQ.out]; rintro e w3 ⟨rfl, hb3⟩)
              go_roundw
              case rel => exact ⟨k + 1, by omega, num_succ k, HP2.out HQ.out, cell_below hb3 hc7, hbw.trans (hb3.mono hbw.size)⟩
              case measure => simp [intOf]; omega
          · obtain rfl : k = kids.length := by omega
            have HFt : Hid (kids.all (fun q => q.fit (d + 1)) = true) := by
              rw [Hid, List.all_eq_true]
              intro q hq
              obtain ⟨i, hi, rfl⟩ := List.getElem_of_mem hq
              exact HP.out i hi hi
            go_wp2_with fail
            go_ret
            exact ⟨by rw [HR.out, HFt.out]; rfl, hbw⟩
    · have hok2 : okN p.op p.lo p.hi p.kids.length = false := by simpa using hok
      have HR : Hid (p.fit d = false) := hno (H := True) hok2
      have hn' : ¬ _ := fun h => hok ((okN_iff _ _ _ _).2 h)
      clear hno HF hok hok2
      have hcase : (p.op = 0 ∧ 0 < p.kids.length) ∨ (p.op = 3 ∧ ¬ p.kids.length = 1) ∨ (p.op = 5 ∧ ¬ p.kids.length = 1) ∨ (((p.op = 0 ∧ p.kids.length = 0) ∨ p.op = 1 ∨ p.op = 2 ∨ (p.op = 3 ∧ p.kids.length = 1) ∨ p.op = 4 ∨ (p.op = 5 ∧ p.kids.length = 1)) ∧ (p.lo < 0 ∨ (¬ p.lo < 0 ∧ 32 < p.lo) ∨ (¬ p.lo < 0 ∧ ¬ 32 < p.lo ∧ 32 < p.hi) ∨ (¬ p.lo < 0 ∧ ¬ 32 < p.lo ∧ ¬ 32 < p.hi ∧ 0 ≤ p.hi ∧ p.hi < p.lo))) := by omega
      clear hn'
      rcases hcase with ⟨g1, g2⟩ | ⟨g1, g2⟩ | ⟨g1, g2⟩ | ⟨⟨g1, g2⟩ | g1 | g1 | ⟨g1, g2⟩ | g1 | ⟨g1, g2⟩, g3 | ⟨g3, g4⟩ | ⟨g3, g4, g5⟩ | ⟨g3, g4, g5, g6, g7⟩⟩
      all_goals
        go_enter Try.func48, Try.ntmps48
        go_wp2_with fail
        go_ret
        exact ⟨by rw [HR.out]; rfl, (Below.refl _ _).alloc (Nat.le_refl _) _⟩
set_option maxHeartbeats 1000000 in
theorem rcheck_any (p : Pat) (ks : Value) (w : World) (hs : p.size < 99999) (hk : Kids w p.kids ks) :
    Calls Try.prog 32 #[(.agg #[.int .i64 p.op, .int .u64 (wd p.set 0), .int .u64 (wd p.set 1), .int .u64 (wd p.set 2), .int .u64 (wd p.set 3), .int .i64 p.lo, .int .i64 p.hi, ks])] w fun e w' => e = .returned (.int .i64 (bif p.fit 1 then 0 else 1)) ∧ Below w.heap.size w w' := by
  have hl := hk.len
  obtain ⟨a, cap, rfl⟩ := hl
  have hk2 := hk.below ((Below.refl _ _).alloc (Nat.le_refl _) (.cells #[.int .i64 p.op, .int .u64 (wd p.set 0), .int .u64 (wd p.set 1), .int .u64 (wd p.set 2), .int .u64 (wd p.set 3), .int .i64 p.lo, .int .i64 p.hi, .slice a p.kids.length cap] 28))
  cases hf : p.fit 1
  · have HF := Lib.hid hf
    clear hf
    go_enter Try.func32, Try.ntmps32
    go_wp2_with (go_at_call 48; refine (rmay_any 99999 p 1 _ _ hs (by omega) (by omega) hk2).mono ?_; rw [HF.out]; rintro e w3 ⟨rfl, hb3⟩)
    go_ret
    exact ⟨rfl, ((Below.refl _ _).alloc (Nat.le_refl _) _).trans (hb3.mono (by simp))⟩
  · have HF := Lib.hid hf
    clear hf
    go_enter Try.func32, Try.ntmps32
    go_wp2_with (go_at_call 48; refine (rmay_any 99999 p 1 _ _ hs (by omega) (by omega) hk2).mono ?_; rw [HF.out]; rintro e w3 ⟨rfl, hb3⟩)
    go_ret
    exact ⟨rfl, ((Below.refl _ _).alloc (Nat.le_refl _) _).trans (hb3.mono (by simp))⟩
end Go.Proofs.Ytnjcefjcpmjdiaa
