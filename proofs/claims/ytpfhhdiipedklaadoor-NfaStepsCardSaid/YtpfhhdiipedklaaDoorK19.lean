/- Texts that a proof rests on: Which patterns may be built; how many states; Build. | How many states a pattern's machine has, as the program counts them. | The contract of nfa.Build. | Maps from numbers to rows, each row of its own. -/
import Derived.Test.YtpfhhdiipedklaaDoorK17
import Derived.Test.YtpfhhdiipedklaaDoorK18
import Derived.Test.YtpfhhdiipedklaaDoorK20
set_option maxRecDepth 100000
namespace Go.Proofs.YtpfhhdiipedklaaDoor
open Go.RowKit

set_option maxHeartbeats 1000000 in
theorem index_frag (kids : List Pat) (ks : Value) (P : Pat → Bool) (HT : Hid (Tells 43 kids P)) (w : World) (hl : kids.length < 100000) (hk : Kids w kids ks) :
    Calls Tryd.prog 65 #[ks, .func (.func 43) #[] #[]] w fun e w' => (∃ n : Int, e = .returned (.int .i64 n) ∧ (decide (n ≥ 0)) = kids.any P) ∧ Below w.heap.size w w' := by
  obtain ⟨a, cap, rfl⟩ := hk.len
  go_enter Tryd.func65, Tryd.ntmps65
  go_wp2_with fail
  go_loopw [8] (fun i wr => ∃ k : Nat, k ≤ kids.length ∧ i = .int .i64 k ∧ Hid (∀ i (h : i < kids.length), i < k → P kids[i] = false) ∧ Below w.heap.size w wr) (fun i _ => kids.length - (intOf i).toNat)
  case atStart => exact ⟨0, by omega, rfl, fun i _ h => by omega, Below.refl _ _⟩
  case round =>
    obtain ⟨k, hkl, rfl, HP, hbw⟩ := hrel
    by_cases hlt : k < kids.length
    · obtain ⟨b1, o1, c1, e1, hr1⟩ := hk.row (by omega)
      cases e1
      obtain ⟨ks', hks, e0, e1, e2, e3, e4, e5, e6, e7⟩ := ((hr1.below hbw).at k hlt).load
      have HT1 := Lib.hid (HT.out k hlt ks')
      have HP2 : Hid (P kids[k] = false → ∀ i (h : i < kids.length), i < k + 1 → P kids[i] = false) := fun h i ha hi => by
        rcases Nat.lt_succ_iff_lt_or_eq.1 hi with h | rfl
        · exact HP.out i ha h
        · exact h
      have HA : Hid (P kids[k] = true → kids.any P = true) := any_at hlt
      clear HP
      generalize kids[k] = p' at *
      cases hq : P p'
      · have HQ := Lib.hid hq
        clear hq
        go_wp2_with (go_at_call 43; refine (HT1.out _ hks).mono ?_; rw [HQ.out]; rintro e w3 ⟨rfl, hb3⟩)
        go_roundw
        case rel => exact ⟨k + 1, by omega, num_succ k, HP2.out HQ.out, hbw.trans (hb3.mono hbw.size)⟩
        case measure => simp [intOf]; omega
      · have HQ := Lib.hid hq
        clear hq
        go_wp2_with (go_at_call 43; refine (HT1.out _ hks).mono ?_; rw [HQ.out]; rintro e w3 ⟨rfl, hb3⟩)
        go_ret
        exact ⟨⟨_, rfl, by rw [HA.out HQ.out]; simp⟩, hbw.trans (hb3.mono hbw.size)⟩
    · have HA : Hid (kids.any P = false) := any_none fun i hi => HP.out i hi (by omega)
      go_wp2_with fail
      go_ret
      exact ⟨⟨-1, rfl, by rw [HA.out]; rfl⟩, hbw⟩
set_option maxHeartbeats 1000000 in
theorem contains_frag (kids : List Pat) (ks : Value) (P : Pat → Bool) (HT : Hid (Tells 43 kids P)) (w : World) (hl : kids.length < 100000) (hk : Kids w kids ks) :
    Calls Tryd.prog 44 #[ks, .func (.func 43) #[] #[]] w fun e w' => e = .returned (.bool (kids.any P)) ∧ Below w.heap.size w w' := by
  obtain ⟨a, cap, rfl⟩ := hk.len
  go_enter Tryd.func44, Tryd.ntmps44
  go_wp2_with (go_at_call 65; refine (index_frag kids _ P HT _ hl hk).mono ?_; rintro e w2 ⟨⟨n, rfl, hn⟩, hb2⟩; have HN := Lib.hid hn; clear hn)
  go_ret
  refine ⟨?_, hb2⟩
  rw [← HN.out]
  first | rfl | (congr 2)
set_option maxHeartbeats 1000000 in
theorem nofrag_any (p : Pat) (ks : Value) (v : Bool) (w : World) (hk : Kids w p.kids ks) (HN : Hid (∀ (ks : Value) (w : World), Kids w p.kids ks → Calls Tryd.prog 23 #[(.agg #[.int .i64 p.op, .int .u64 (wd p.set 0), .int .u64 (wd p.set 1), .int .u64 (wd p.set 2), .int .u64 (wd p.set 3), .int .i64 p.lo, .int .i64 p.hi, ks])] w fun e w' => e = .returned (.bool v) ∧ Below w.heap.size w w')) :
    Calls Tryd.prog 43 #[(.agg #[.int .i64 p.op, .int .u64 (wd p.set 0), .int .u64 (wd p.set 1), .int .u64 (wd p.set 2), .int .u64 (wd p.set 3), .int .i64 p.lo, .int .i64 p.hi, ks])] w fun e w' => e = .returned (.bool (!v)) ∧ Below w.heap.size w w' := by
  obtain ⟨a, cap, rfl⟩ := hk.len
  have hal := (Below.refl w.heap.size w).alloc (Nat.le_refl _) (.cells #[.int .i64 p.op, .int .u64 (wd p.set 0), .int .u64 (wd p.set 1), .int .u64 (wd p.set 2), .int .u64 (wd p.set 3), .int .i64 p.lo, .int .i64 p.hi, .slice a p.kids.length cap] 36)
  have hk0 := hk.below hal
  go_enter Tryd.func43, Tryd.ntmps43
  go_wp2_with (go_at_call 23; refine (HN.out _ _ hk0).mono ?_; rintro e w2 ⟨rfl, hb2⟩)
  go_ret
  exact ⟨rfl, below_step hal hb2⟩
set_option maxHeartbeats 2000000 in
theorem frag_any : ∀ (n : Nat) (p : Pat) (ks : Value) (w : World), p.size < n → n ≤ 100000 → Kids w p.kids ks →
    Calls Tryd.prog 23 #[(.agg #[.int .i64 p.op, .int .u64 (wd p.set 0), .int .u64 (wd p.set 1), .int .u64 (wd p.set 2), .int .u64 (wd p.set 3), .int .i64 p.lo, .int .i64 p.hi, ks])] w fun e w' => e = .returned (.bool p.pln) ∧ Below w.heap.size w w' := by
  intro n
  induction n with
  | zero => intro p ks w h; omega
  | succ n ih =>
    intro p ks w hn hmax hk
    have hse := size_eq p
    have hlen := length_sizes p.kids
    have HT : Hid (Tells 43 p.kids (fun q => !q.pln)) := fun i h ks w hk => nofrag_any p.kids[i] ks (p.kids[i].pln) w hk (fun ks w hk => ih p.kids[i] ks w (by have := size_kid p.kids i h; omega) (by omega) hk)
    have HP : Hid (p.pln = ((p.op != 4 && p.op != 5) && !p.kids.any (fun q => !q.pln))) := by rw [Hid, all_none_any]; exact pln_eq p
    obtain ⟨a, cap, rfl⟩ := hk.len
    have hal := (Below.refl w.heap.size w).alloc (Nat.le_refl _) (.cells #[.int .i64 p.op, .int .u64 (wd p.set 0), .int .u64 (wd p.set 1), .int .u64 (wd p.set 2), .int .u64 (wd p.set 3), .int .i64 p.lo, .int .i64 p.hi, .slice a p.kids.length cap] 36)
    have hk0 := Lib.hid (hk.below hal)
    have hl : p.kids.length < 100000 := by omega
    clear ih
    by_cases h4 : p.op = 4
    · have d4 : (p.op != 4) = false := by simp [h4]
      have HR : Hid (p.pln = false) := by rw [Hid, HP.out, h4]; rfl
      clear h4
      go_enter Tryd.func23, Tryd.ntmps23
      go_wp2
      go_ret
      exact ⟨by rw [HR.out]; rfl, hal⟩
    have d4 : (p.op != 4) = true := by simpa using h4
    by_cases h5 : p.op = 5
    · have d5 : (p.op != 5) = false := by simp [h5]
      have HR : Hid (p.pln = false) := by rw [Hid, HP.out, h5]; rfl
      clear h5 h4
      go_enter Tryd.func23, Tryd.ntmps23
      go_wp2
      go_ret
      exact ⟨by rw [HR.out]; rfl, hal⟩
    have d5 : (p.op != 5) = true := by simpa using h5
    have HR : Hid (p.pln = !p.kids.any (fun q => !q.pln)) := by rw [Hid, HP.out, d4, d5]; simp
    obtain ⟨v, hv⟩ : ∃ v, p.kids.any (fun q => !q.pln) = v := ⟨_, rfl⟩
    have HV := Lib.hid hv
    clear h4 h5 hv
    go_enter Tryd.func23, Tryd.ntmps23
    cases v
    all_goals
      go_wp2_with (go_at_call 44; refine (contains_frag p.kids _ _ HT _ hl hk0.out).mono ?_; rw [HV.out]; rintro e w2 ⟨rfl, hb2⟩)
      go_ret
      exact ⟨by rw [HR.out, HV.out]; rfl, below_step hal hb2⟩
end Go.Proofs.YtpfhhdiipedklaaDoor
set_option maxRecDepth 100000
namespace Go.Proofs.YtpfhhdiipedklaaDoor
open Go.RowKit

mutual
/-- Counted up to a bound. -/
def Pat.sta : Pat → Nat
  | .mk op _ lo hi kids => min (2 + copies op lo hi * staL kids) 4097
def staL : List Pat → Nat
  | [] => 0
  | p :: ps => p.sta + staL ps
end
theorem sta_eq (p : Pat) : p.sta = min (2 + copies p.op p.lo p.hi * staL p.kids) 4097 := by cases p; simp only [Pat.sta, Pat.op, Pat.lo, Pat.hi, Pat.kids]
theorem staL_take {l : List Pat} {k : Nat} (h : k < l.length) : staL (l.take (k + 1)) = staL (l.take k) + l[k].sta := by
  induction l generalizing k with
  | nil => simp at h
  | cons p ps ih =>
    cases k with
    | zero => simp [staL]
    | succ k => have := ih (k := k) (by simpa using h); simp only [List.take_succ_cons, staL, List.getElem_cons_succ] at this ⊢; omega
theorem staL_le (l : List Pat) (k : Nat) : staL (l.take k) ≤ staL l := by
  induction l generalizing k with
  | nil => simp [staL]
  | cons p ps ih =>
    cases k with
    | zero => simp [staL]
    | succ k => have := ih k; simp only [List.take_succ_cons, staL]; omega
theorem sta_le (p : Pat) : p.sta ≤ 4097 := by rw [sta_eq]; omega
theorem sta_mem {l : List Pat} {q : Pat} (h : q ∈ l) : q.sta ≤ staL l := by
  induction l with
  | nil => cases h
  | cons p ps ih =>
    rcases List.mem_cons.1 h with rfl | h
    · simp [staL]
    · have := ih h; simp only [staL]; omega
/-- Below the bound it is exact. -/
theorem sta_cnt (p : Pat) : p.sta ≤ 4096 → p.sta = p.cnt := by
  induction p using Pat.by_size with | h p ih => ?_
  intro h
  rw [sta_eq] at h ⊢
  rw [cnt_eq]
  have h1 : 2 + copies p.op p.lo p.hi * staL p.kids ≤ 4096 := by omega
  have e : copies p.op p.lo p.hi * staL p.kids = copies p.op p.lo p.hi * cntL p.kids := by
    rcases Nat.eq_zero_or_pos (copies p.op p.lo p.hi) with h0 | h0
    · rw [h0]; simp
    · have h2 : staL p.kids ≤ 4096 := by
        have := Nat.le_mul_of_pos_left (staL p.kids) h0
        omega
      have h3 : ∀ l : List Pat, (∀ q ∈ l, q ∈ p.kids) → staL l = cntL l := by
        intro l
        induction l with
        | nil => intro _; rfl
        | cons q qs ihl =>
          intro hl
          have hq := hl q (by simp)
          have := sta_mem hq
          simp only [staL, cntL]
          rw [ih q hq (by omega), ihl (fun x hx => hl x (by simp [hx]))]
      rw [h3 p.kids (fun _ h => h)]
  omega
set_option maxHeartbeats 1000000 in
theorem copies_any (p : Pat) (hg : p.good = true) (ks : Value) (w : World) (hk : Kids w p.kids ks) :
    Calls Tryd.prog 45 #[(.agg #[.int .i64 p.op, .int .u64 (wd p.set 0), .int .u64 (wd p.set 1), .int .u64 (wd p.set 2), .int .u64 (wd p.set 3), .int .i64 p.lo, .int .i64 p.hi, ks])] w fun e w' => e = .returned (.int .i64 (copies p.op p.lo p.hi)) ∧ Below w.heap.size w w' := by
  obtain ⟨a, cap, rfl⟩ := hk.len
  obtain ⟨g0, g1, g2, g3⟩ := good_num hg
  have hal := (Below.refl w.heap.size w).alloc (Nat.le_refl _) (.cells #[.int .i64 p.op, .int .u64 (wd p.set 0), .int .u64 (wd p.set 1), .int .u64 (wd p.set 2), .int .u64 (wd p.set 3), .int .i64 p.lo, .int .i64 p.hi, .slice a p.kids.length cap] 36)
  obtain ⟨c, hc⟩ : ∃ c, copies p.op p.lo p.hi = c := ⟨_, rfl⟩
  rw [hc]
  unfold copies at hc
  clear hk hg
  by_cases h3 : p.op = 3
  · have d3 : (p.op != 3) = false := by simp [h3]
    rw [if_pos h3] at hc
    clear h3
    by_cases hn : p.hi < 0
    · have d4 : decide (p.hi < 0) = true := by simpa using hn
      rw [if_pos hn] at hc
      have he : p.lo + 1 = (c : Int) := by omega
      clear hc
      go_enter Tryd.func45, Tryd.ntmps45
      go_wp2
      go_ret
      exact ⟨rfl, hal⟩
    · have d4 : decide (p.hi < 0) = false := by simpa using hn
      rw [if_neg hn] at hc
      have he : Hid (p.hi = (c : Int)) := Lib.hid (by omega)
      clear hc
      go_enter Tryd.func45, Tryd.ntmps45
      go_wp2
      go_ret
      exact ⟨by rw [he.out]; rfl, hal⟩
  · have d3 : (p.op != 3) = true := by simpa using h3
    rw [if_neg h3] at hc
    subst hc
    clear h3
    go_enter Tryd.func45, Tryd.ntmps45
    go_wp2
    go_ret
    exact ⟨rfl, hal⟩
set_option maxHeartbeats 4000000 in
theorem states_any : ∀ (n : Nat) (p : Pat) (ks : Value) (w : World), p.good = true → p.size < n → n ≤ 100000 → Kids w p.kids ks →
    Calls Tryd.prog 24 #[(.agg #[.int .i64 p.op, .int .u64 (wd p.set 0), .int .u64 (wd p.set 1), .int .u64 (wd p.set 2), .int .u64 (wd p.set 3), .int .i64 p.lo, .int .i64 p.hi, ks])] w fun e w' => e = .returned (.int .i64 p.sta) ∧ Below w.heap.size w w' := by
  intro n
  induction n with
  | zero => intro p ks w _ h; omega
  | succ n ih =>
    intro p ks w hg hn hmax hk
    have hse := size_eq p
    have hlen := length_sizes p.kids
    have IH := Lib.hid ih
    clear ih
    obtain ⟨a, cap, rfl⟩ := hk.len
    obtain ⟨N, hN⟩ : ∃ N, w.heap.size = N := ⟨_, rfl⟩
    obtain ⟨w1, hw1⟩ : ∃ w1, w1 = w.alloc (.cells #[.int .i64 p.op, .int .u64 (wd p.set 0), .int .u64 (wd p.set 1), .int .u64 (wd p.set 2), .int .u64 (wd p.set 3), .int .i64 p.lo, .int .i64 p.hi, .slice a p.kids.length cap] 36) := ⟨_, rfl⟩
    have hb1 : Below w.heap.size w w1 := by rw [hw1]; exact new_one w _
    have hx1 : w1.heap[N]? = some (.cells #[.int .i64 p.op, .int .u64 (wd p.set 0), .int .u64 (wd p.set 1), .int .u64 (wd p.set 2), .int .u64 (wd p.set 3), .int .i64 p.lo, .int .i64 p.hi, .slice a p.kids.length cap] 36 (0, 0)) := by rw [hw1, ← hN]; exact heap_alloc_new w _
    have hs1 : w1.heap.size = N + 1 := by rw [hw1]; simp [hN]
    have HK := Lib.hid (hk.below hb1)
    have HX := Lib.hid hx1
    have HB1 := Lib.hid hb1
    have HW := Lib.hid hw1
    obtain ⟨c, hc⟩ : ∃ c, copies p.op p.lo p.hi = c := ⟨_, rfl⟩
    have HCO := Lib.hid (copies_any p hg _ w1 (hk.below hb1))
    rw [hc] at HCO
    have HSE : Hid (p.sta = min (2 + c * staL p.kids) 4097) := by rw [Hid, sta_eq, hc]
    have HGK := Lib.hid (fun q (hq : q ∈ p.kids) => good_kid hg hq)
    have hcb : c ≤ 33 := by
      obtain ⟨g0, g1, g2, g3⟩ := good_num hg
      rw [← hc, copies]
      split
      · split <;> omega
      · omega
    obtain ⟨k0, k1, k2, k3, k4, k5, k6, k7⟩ := node_cells hx1
    clear hb1 hx1 hw1 hk hg hc
    rw [hN]
    go_enter Tryd.func24, Tryd.ntmps24
    go_upto_region 1 with fail
    rw [← HW.out]
    go_wp2_with (go_at_call 45; refine HCO.out.mono ?_; rintro e w2 ⟨rfl, hb2⟩; obtain ⟨k0', k1', k2', k3', k4', k5', k6', k7'⟩ := node_cells ((hb2.block N (by omega)).trans HX.out); have HB2 := Lib.hid hb2; clear hb2)
    go_loopw [3, 12] (fun v x wr => ∃ (k t : Nat), x = .int .i64 k ∧ k ≤ p.kids.length ∧ v = .int .i64 t ∧ t ≤ 200000 ∧ Hid (t = 2 + c * staL (p.kids.take k)) ∧ Hid (Below w1.heap.size w1 wr)) (fun _ x _ => p.kids.length - (intOf x).toNat)
    case atStart => exact ⟨0, 2, rfl, Nat.zero_le _, rfl, by omega, Lib.hid (by rw [List.take_zero]; simp [staL]), HB2⟩
    case round =>
      clear k0' k1' k2' k3' k4' k5' k6' k7'
      obtain ⟨k, t, rfl, hkl, rfl, htb, HT, HBR⟩ := hrel
      have HEND : Hid (Below N w wr) := Lib.hid (by rw [← hN]; exact HB1.out.trans (HBR.out.mono HB1.out.size))
      by_cases hlt : k < p.kids.length
      · have hdd : decide ((k : Int) < p.kids.length) = true := by simpa using hlt
        obtain ⟨b', o', cap', e, hr⟩ := HK.out.row (by omega)
        cases e
        obtain ⟨ks', hks, e0, e1, e2, e3, e4, e5, e6, e7⟩ := ((hr.below HBR.out).at k hlt).load
        obtain ⟨ka, kc, rfl⟩ := hks.len
        have HSQ := Lib.hid (staL_take hlt)
        have hsq := sta_le p.kids[k]
        have HLQ := Lib.hid (staL_le p.kids k)
        have HIQ := Lib.hid (fun ks w (h : Kids w p.kids[k].kids ks) => IH.out p.kids[k] ks w (HGK.out _ (List.getElem_mem hlt)) (by have := size_kid p.kids k hlt; omega) (by omega) h)
        generalize p.kids[k] = q at *
        clear hr
        go_upto_region 5 with fail
        obtain ⟨g, hg⟩ : ∃ g, wr.heap.size = g := ⟨_, rfl⟩
        obtain ⟨w5, hw5⟩ : ∃ w5, wr.alloc (.cells #[.int .i64 q.op, .int .u64 (wd q.set 0), .int .u64 (wd q.set 1), .int .u64 (wd q.set 2), .int .u64 (wd q.set 3), .int .i64 q.lo, .int .i64 q.hi, .slice ka q.kids.length kc] 36) = w5 := ⟨_, rfl⟩
        have hb5 : Below wr.heap.size wr w5 := by rw [← hw5]; exact new_one wr _
        have hx5 : w5.heap[g]? = some (.cells #[.int .i64 q.op, .int .u64 (wd q.set 0), .int .u64 (wd q.set 1), .int .u64 (wd q.set 2), .int .u64 (wd q.set 3), .int .i64 q.lo, .int .i64 q.hi, .slice ka q.kids.length kc] 36 (0, 0)) := by rw [← hw5, ← hg]; exact heap_alloc_new wr _
        have HB5 := Lib.hid (HBR.out.trans (hb5.mono HBR.out.size))
        have HK5 := Lib.hid (hks.below hb5)
        clear e0 e1 e2 e3 e4 e5 e6 e7
        obtain ⟨e0, e1, e2, e3, e4, e5, e6, e7⟩ := node_cells hx5
        rw [hw5, hg]
        have HE5 : Hid (Below N w w5) := Lib.hid (by rw [← hN]; exact HB1.out.trans (HB5.out.mono HB1.out.size))
        clear hw5 hb5 hx5 hg
        by_cases hbig : t > 4096
        · have hd4 : decide ((t : Int) > 4096) = true := by simp; omega
          have hd5 : decide ((4096 : Int) < t) = true := by simp; omega
          have HF : Hid (p.sta = 4097) := Lib.hid (by
            have h1 := HT.out
            have h2 := Nat.mul_le_mul_left c HLQ.out
            rw [HSE.out]; omega)
          clear HIQ
          by_cases h97 : t = 4097
          · subst h97
            go_wp2
            go_ret
            exact ⟨by rw [HF.out]; rfl, HE5.out⟩
          · have h98 : 4097 < t := by omega
            go_wp2
            go_ret
            exact ⟨by rw [HF.out]; rfl, HE5.out⟩
        · have hd4 : decide ((t : Int) > 4096) = false := by simp; omega
          have hd5 : decide ((4096 : Int) < t) = false := by simp; omega
          have HQ5 := Lib.hid (HIQ.out _ w5 HK5.out)
          obtain ⟨s, hs⟩ : ∃ s, q.sta = s := ⟨_, rfl⟩
          rw [hs] at HQ5 HSQ hsq
          obtain ⟨z, hz⟩ : ∃ z, c * s = z := ⟨_, rfl⟩
          have hzb : z ≤ 33 * 4097 := by rw [← hz]; exact Nat.mul_le_mul hcb hsq
          have hzc : (c : Int) * (s : Int) = (z : Int) := by rw [← hz]; simp
          have hcs : c ≤ 33 := hcb
          clear hs HIQ
          go_wp2_with (go_at_call 24; refine HQ5.out.mono ?_; rintro e w6 ⟨rfl, hb6⟩)
          go_roundw
          case rel => exact ⟨k + 1, t + z, num_succ k, by omega, by simp, by omega, Lib.hid (by rw [HSQ.out, Nat.mul_add, hz, HT.out]; omega), Lib.hid (HB5.out.trans (hb6.mono HB5.out.size))⟩
          case measure => simp [intOf]; omega
      · obtain rfl : k = p.kids.length := by omega
        have hdd : decide ((p.kids.length : Int) < p.kids.length) = false := by simp
        rw [List.take_length] at HT
        by_cases ht : t ≤ 4097
        · have HF : Hid (p.sta = t) := Lib.hid (by rw [HSE.out, ← HT.out]; omega)
          have hmin : min (t : Int) 4097 = (t : Int) := by omega
          go_wp2
          go_ret
          exact ⟨by rw [HF.out]; rfl, HEND.out⟩
        · have HF : Hid (p.sta = 4097) := Lib.hid (by rw [HSE.out, ← HT.out]; omega)
          have hmin : min (t : Int) 4097 = 4097 := by omega
          go_wp2
          go_ret
          exact ⟨by rw [HF.out]; rfl, HEND.out⟩
end Go.Proofs.YtpfhhdiipedklaaDoor
set_option maxRecDepth 100000
namespace Go.Proofs.YtpfhhdiipedklaaDoor
open Go.RowKit

/-- Rows of steps, as they lie. -/
def RowE (w : World) (v : Value) (l : List (Nat × Nat)) : Prop := ∃ base, w.ownsRow base 75 2 v l.length (flE l)
def RowA (w : World) (v : Value) (l : List (Nat × Nat × BitVec 256)) : Prop := ∃ base, w.ownsRow base 78 6 v l.length (flA l)
theorem RowE.below {w w' : World} {v : Value} {l : List (Nat × Nat)} (h : RowE w v l) (hb : Below w.heap.size w w') : RowE w' v l := by
  obtain ⟨b, h⟩ := h
  exact ⟨b, row_keep h fun _ _ _ h1 => (hb.block _ (lt_of_block h1)).trans h1⟩
theorem RowA.below {w w' : World} {v : Value} {l : List (Nat × Nat × BitVec 256)} (h : RowA w v l) (hb : Below w.heap.size w w') : RowA w' v l := by
  obtain ⟨b, h⟩ := h
  exact ⟨b, row_keep h fun _ _ _ h1 => (hb.block _ (lt_of_block h1)).trans h1⟩
def M0 : Mach := ⟨0, [], []⟩
/-- What Build gives. -/
def BuildP (p : Pat) (N : Nat) (w : World) (e : Ending) (w' : World) : Prop :=
  ((p.fit 1 = false ∨ p.pln = false) ∧ e = .returned (.tuple #[.agg #[.int .i64 0, .slice none 0 0, .slice none 0 0, .int .i64 0, .int .i64 0], .int .i64 1]) ∧ Below N w w') ∨
  (p.fit 1 = true ∧ p.pln = true ∧ 4096 < p.sta ∧ e = .returned (.tuple #[.agg #[.int .i64 0, .slice none 0 0, .slice none 0 0, .int .i64 0, .int .i64 0], .int .i64 70]) ∧ Below N w w') ∨
  (p.fit 1 = true ∧ p.pln = true ∧ p.sta ≤ 4096 ∧ ∃ ve va, e = .returned (.tuple #[.agg #[.int .i64 p.cnt, ve, va, .int .i64 0, .int .i64 1], .int .i64 0]) ∧ Hid (RowE w' ve (bld p M0).e) ∧ Hid (RowA w' va (bld p M0).a) ∧ Hid (Below N w w'))
theorem fit_good (p : Pat) : ∀ d, p.fit d = true → p.good = true := by
  induction p using Pat.by_size with | h p ih => ?_
  intro d h
  rw [fit_eq, Bool.and_eq_true, Bool.and_eq_true, List.all_eq_true] at h
  rw [good_eq, Bool.and_eq_true, List.all_eq_true]
  exact ⟨h.2.1, fun q hq => ih q hq _ (h.2.2 q hq)⟩
theorem nfa_cells {w : World} {b : Nat} {x0 x1 x2 x3 x4 : Value} {t : TypeId} (h : w.heap[b]? = some (.cells #[x0, x1, x2, x3, x4] t (0, 0))) : w.cell? ⟨b, 0, none⟩ = some x0 ∧ w.cell? ⟨b, 1, none⟩ = some x1 ∧ w.cell? ⟨b, 2, none⟩ = some x2 ∧ w.cell? ⟨b, 3, none⟩ = some x3 ∧ w.cell? ⟨b, 4, none⟩ = some x4 ∧ w.frozen? ⟨b, 0, none⟩ = false ∧ w.frozen? ⟨b, 1, none⟩ = false ∧ w.frozen? ⟨b, 2, none⟩ = false ∧ w.frozen? ⟨b, 3, none⟩ = false ∧ w.frozen? ⟨b, 4, none⟩ = false :=
  ⟨(cell_of_row _ _ 0 _ _ _ h).trans rfl, (cell_of_row _ _ 1 _ _ _ h).trans rfl, (cell_of_row _ _ 2 _ _ _ h).trans rfl, (cell_of_row _ _ 3 _ _ _ h).trans rfl, (cell_of_row _ _ 4 _ _ _ h).trans rfl, free_cells h, free_cells h, free_cells h, free_cells h, free_cells h⟩
theorem below_five {N b : Nat} {w W : World} (h : Below N w W) (hb : N ≤ b) (x0 x1 x2 x3 x4 : Value) : Below N w (((((W.setCell ⟨b, 0, none⟩ x0).setCell ⟨b, 1, none⟩ x1).setCell ⟨b, 2, none⟩ x2).setCell ⟨b, 3, none⟩ x3).setCell ⟨b, 4, none⟩ x4) :=
  ((((h.setCell (p := ⟨b, 0, none⟩) hb _).setCell (p := ⟨b, 1, none⟩) hb _).setCell (p := ⟨b, 2, none⟩) hb _).setCell (p := ⟨b, 3, none⟩) hb _).setCell (p := ⟨b, 4, none⟩) hb _
theorem heap_five {b k : Nat} {W : World} (h : k ≠ b) (x0 x1 x2 x3 x4 : Value) : (((((W.setCell ⟨b, 0, none⟩ x0).setCell ⟨b, 1, none⟩ x1).setCell ⟨b, 2, none⟩ x2).setCell ⟨b, 3, none⟩ x3).setCell ⟨b, 4, none⟩ x4).heap[k]? = W.heap[k]? := by
  rw [Below.heap_setCell _ _ _ _ (by show k ≠ b; exact h), Below.heap_setCell _ _ _ _ (by show k ≠ b; exact h), Below.heap_setCell _ _ _ _ (by show k ≠ b; exact h), Below.heap_setCell _ _ _ _ (by show k ≠ b; exact h), Below.heap_setCell _ _ _ _ (by show k ≠ b; exact h)]
set_option linter.unusedSimpArgs false in
set_option maxHeartbeats 8000000 in
theorem nbuild_any (p : Pat) (ks : Value) (w : World) (hs : p.size ≤ 5000) (hk : Kids w p.kids ks) :
    Calls Tryd.prog 8 #[(.agg #[.int .i64 p.op, .int .u64 (wd p.set 0), .int .u64 (wd p.set 1), .int .u64 (wd p.set 2), .int .u64 (wd p.set 3), .int .i64 p.lo, .int .i64 p.hi, ks])] w (BuildP p w.heap.size w) := by
  obtain ⟨a, cap, rfl⟩ := hk.len
  obtain ⟨N, hN⟩ : ∃ N, w.heap.size = N := ⟨_, rfl⟩
  obtain ⟨w1, hw1⟩ : ∃ w1, w1 = (w.alloc (.cells #[.int .i64 p.op, .int .u64 (wd p.set 0), .int .u64 (wd p.set 1), .int .u64 (wd p.set 2), .int .u64 (wd p.set 3), .int .i64 p.lo, .int .i64 p.hi, .slice a p.kids.length cap] 36)).alloc (.cells #[.int .i64 0, .slice none 0 0, .slice none 0 0, .int .i64 0, .int .i64 0] 27) := ⟨_, rfl⟩
  have hb1 : Below w.heap.size w w1 := by rw [hw1]; exact below2 w _ _
  have hs1 : w1.heap.size = N + 2 := by rw [hw1]; simp [hN]
  have hx1 : w1.heap[N]? = some (.cells #[.int .i64 p.op, .int .u64 (wd p.set 0), .int .u64 (wd p.set 1), .int .u64 (wd p.set 2), .int .u64 (wd p.set 3), .int .i64 p.lo, .int .i64 p.hi, .slice a p.kids.length cap] 36 (0, 0)) := by rw [hw1, heap_alloc_old _ _ (by simp; omega), ← hN]; exact heap_alloc_new w _
  have hr1 : w1.heap[N + 1]? = some (.cells #[.int .i64 0, .slice none 0 0, .slice none 0 0, .int .i64 0, .int .i64 0] 27 (0, 0)) := by
    have := heap_alloc_new (w.alloc (.cells #[.int .i64 p.op, .int .u64 (wd p.set 0), .int .u64 (wd p.set 1), .int .u64 (wd p.set 2), .int .u64 (wd p.set 3), .int .i64 p.lo, .int .i64 p.hi, .slice a p.kids.length cap] 36)) (.cells #[.int .i64 0, .slice none 0 0, .slice none 0 0, .int .i64 0, .int .i64 0] 27)
    rw [World.size_alloc, hN] at this
    rw [hw1]; exact this
  have HB1 := Lib.hid (show Below N w w1 by rw [← hN]; exact hb1)
  have HX1 := Lib.hid hx1
  have HR1 := Lib.hid hr1
  have HW := Lib.hid hw1
  have hk1 := hk.below hb1
  have HK1 := Lib.hid hk1
  have HC1 := Lib.hid (check_any p _ w1 (by omega) hk1)
  obtain ⟨k0, k1, k2, k3, k4, k5, k6, k7⟩ := node_cells hx1
  clear hb1 hx1 hr1 hw1 hk hk1
  rw [hN]
  go_enter Tryd.func8, Tryd.ntmps8
  go_upto_region 1 with fail
  rw [← HW.out]
  cases hf : p.fit 1
  · rw [hf] at HC1
    have HF := Lib.hid hf
    clear hf
    go_wp2_with (go_at_call 22; refine HC1.out.mono ?_; rintro e w2 ⟨rfl, hb2⟩; have HB2 := Lib.hid hb2; obtain ⟨z0, z1, z2, z3, z4, y0, y1, y2, y3, y4⟩ := nfa_cells ((hb2.block (N + 1) (by omega)).trans HR1.out); clear hb2)
    exact bodyPost_ret (v := .tuple #[.agg #[.int .i64 0, .slice none 0 0, .slice none 0 0, .int .i64 0, .int .i64 0], .int .i64 1]) (by simp [results, Tryd.results8, go_sem, *]) rfl (.inl ⟨.inl HF.out, rfl, below_five (HB1.out.trans (HB2.out.mono (by omega))) (Nat.le_succ N) _ _ _ _ _⟩)
  rw [hf] at HC1
  have HF := Lib.hid hf
  have HG := Lib.hid (fit_good p 1 hf)
  clear hf
  go_upto_region 2 with (go_at_call 22; refine HC1.out.mono ?_; rintro e w2 ⟨rfl, hb2⟩)
  have HB2 := Lib.hid (HB1.out.trans (hb2.mono (by omega)))
  have hx2 := (hb2.block N (by omega)).trans HX1.out
  have hr2 := (hb2.block (N + 1) (by omega)).trans HR1.out
  have hs2 : N + 2 ≤ w2.heap.size := by have := hb2.size; omega
  have HK2 := Lib.hid (HK1.out.below hb2)
  have HX2 := Lib.hid hx2
  have HR2 := Lib.hid hr2
  clear k0 k1 k2 k3 k4 k5 k6 k7 hb2
  obtain ⟨k0, k1, k2, k3, k4, k5, k6, k7⟩ := node_cells hx2
  have HC2 := Lib.hid (frag_any (p.size + 1) p _ w2 (by omega) (by omega) HK2.out)
  clear hx2 hr2 HC1
  cases hp : p.pln
  · rw [hp] at HC2
    have HP := Lib.hid hp
    clear hp
    go_wp2_with (go_at_call 23; refine HC2.out.mono ?_; rintro e w3 ⟨rfl, hb3⟩; have HB3 := Lib.hid hb3; obtain ⟨z0, z1, z2, z3, z4, y0, y1, y2, y3, y4⟩ := nfa_cells ((hb3.block (N + 1) (by omega)).trans HR2.out); clear hb3)
    exact bodyPost_ret (v := .tuple #[.agg #[.int .i64 0, .slice none 0 0, .slice none 0 0, .int .i64 0, .int .i64 0], .int .i64 1]) (by simp [results, Tryd.results8, go_sem, *]) rfl (.inl ⟨.inr HP.out, rfl, below_five (HB2.out.trans (HB3.out.mono (by omega))) (Nat.le_succ N) _ _ _ _ _⟩)
  rw [hp] at HC2
  have HP := Lib.hid hp
  clear hp
  go_upto_region 4 with (go_at_call 23; refine HC2.out.mono ?_; rintro e w3 ⟨rfl, hb3⟩)
  have HB3 := Lib.hid (HB2.out.trans (hb3.mono (by omega)))
  have hx3 := (hb3.block N (by omega)).trans HX2.out
  have hr3 := (hb3.block (N + 1) (by omega)).trans HR2.out
  have hs3 : N + 2 ≤ w3.heap.size := by have := hb3.size; omega
  have HK3 := Lib.hid (HK2.out.below hb3)
  have HX3 := Lib.hid hx3
  have HR3 := Lib.hid hr3
  clear k0 k1 k2 k3 k4 k5 k6 k7 hb3
  obtain ⟨k0, k1, k2, k3, k4, k5, k6, k7⟩ := node_cells hx3
  have HC3 := Lib.hid (states_any (p.size + 1) p _ w3 HG.out (by omega) (by omega) HK3.out)
  clear hx3 hr3 HC2
  obtain ⟨s, hsta⟩ : ∃ s, p.sta = s := ⟨_, rfl⟩
  rw [hsta] at HC3
  have HST := Lib.hid hsta
  clear hsta
  by_cases hbig : s > 4096
  · have hd4 : decide ((s : Int) > 4096) = true := by simp; omega
    have hd5 : decide ((4096 : Int) < s) = true := by simp; omega
    go_wp2_with (go_at_call 24; refine HC3.out.mono ?_; rintro e w4 ⟨rfl, hb4⟩; have HB4 := Lib.hid hb4; obtain ⟨z0, z1, z2, z3, z4, y0, y1, y2, y3, y4⟩ := nfa_cells ((hb4.block (N + 1) (by omega)).trans HR3.out); clear hb4)
    exact bodyPost_ret (v := .tuple #[.agg #[.int .i64 0, .slice none 0 0, .slice none 0 0, .int .i64 0, .int .i64 0], .int .i64 70]) (by simp [results, Tryd.results8, go_sem, *]) rfl (.inr (.inl ⟨HF.out, HP.out, by rw [HST.out]; exact hbig, rfl, below_five (HB3.out.trans (HB4.out.mono (by omega))) (Nat.le_succ N) _ _ _ _ _⟩))
  have hd4 : decide ((s : Int) > 4096) = false := by simp; omega
  have hd5 : decide ((4096 : Int) < s) = false := by simp; omega
  go_upto_region 6 with (go_at_call 24; refine HC3.out.mono ?_; rintro e w4 ⟨rfl, hb4⟩)
  have HB4 := Lib.hid (HB3.out.trans (hb4.mono (by omega)))
  have HK4 := Lib.hid (HK3.out.below hb4)
  have hs4 : N + 2 ≤ w4.heap.size := by have := hb4.size; omega
  have HX4 := Lib.hid ((hb4.block N (by omega)).trans HX3.out)
  have HR4 := Lib.hid ((hb4.block (N + 1) (by omega)).trans HR3.out)
  clear k0 k1 k2 k3 k4 k5 k6 k7 hb4 HC3 hd4 hd5
  have HSC : Hid (p.cnt ≤ 4096) := Lib.hid (by rw [← sta_cnt p (by rw [HST.out]; omega), HST.out]; omega)
  go_upto_region 7 with (go_at_call 25; refine (newBuilder_any w4).mono ?_; rintro e w5 ⟨bb, bv, mb, rfl, HS5⟩)
  have hb45 := HS5.out.below
  have hx5 := (hb45.block N (by omega)).trans HX4.out
  have HR5 := Lib.hid ((hb45.block (N + 1) (by omega)).trans HR4.out)
  obtain ⟨k0, k1, k2, k3, k4, k5, k6, k7⟩ := node_cells hx5
  have HX5 := Lib.hid hx5
  have HBC : Hid (Calls Tryd.prog 26 #[ptr bb, (.agg #[.int .i64 p.op, .int .u64 (wd p.set 0), .int .u64 (wd p.set 1), .int .u64 (wd p.set 2), .int .u64 (wd p.set 3), .int .i64 p.lo, .int .i64 p.hi, .slice a p.kids.length cap])] w5 (Built w4 bb bv mb (.agg #[.int .i64 0, .int .i64 1]) (bld p M0) w5)) := Lib.hid (build_any w4 bb bv mb p HG.out HP.out (by omega) M0 0 1 _ w5 rfl rfl HS5.out HK4.out (by simp [M0]) (by simp [M0]) (by rw [bld_n p HG.out HP.out]; have := HSC.out; simp only [M0]; omega))
  clear hx5 hb45
  go_upto_region 8 with (go_at_call 26; refine HBC.out.mono ?_; rintro e w6 ⟨rfl, HS6, HK6⟩)
  obtain ⟨g, hg⟩ : ∃ g, w6.heap.size = g := ⟨_, rfl⟩
  obtain ⟨w7, hw7⟩ : ∃ w7, w6.alloc (.cells #[.int .i64 0, .int .i64 1] 62) = w7 := ⟨_, rfl⟩
  have hb7 : Below w6.heap.size w6 w7 := by rw [← hw7]; exact new_one w6 _
  have hf7 : w7.heap[g]? = some (.cells #[.int .i64 ((0 : Nat) : Int), .int .i64 ((1 : Nat) : Int)] 62 (0, 0)) := by rw [← hw7, ← hg]; exact heap_alloc_new w6 _
  obtain ⟨ve, va, hBS⟩ := HS6.out.next hb7
  have HBS := Lib.hid hBS
  have hgb : g ≠ bb := fun e => by
    subst e
    have := hBS.obj
    rw [hf7] at this; simp at this
  have HR7 := Lib.hid ((hb7.block (N + 1) (by have := HK6.out.size; have := lt_of_block HR5.out; omega)).trans (HK6.out.block (N + 1) _ HR5.out (by simp [Else])))
  obtain ⟨f0, f1⟩ := frag_cells hf7
  have mixed : Tryd.prog.follows .mixedOrders = true := by kernel_rfl
  have e0 : w7.drew.cell? ⟨g, 0, none⟩ = some (.int .i64 0) := f0
  have e1 : w7.drew.cell? ⟨g, 1, none⟩ = some (.int .i64 1) := f1
  have b3 : w7.cell? ⟨bb, 3, none⟩ = some (.int .i64 0) := (cell_of_row _ _ 3 _ _ _ hBS.obj).trans rfl
  have y3 : w7.frozen? ⟨bb, 3, none⟩ = false := free_cells hBS.obj
  have h8 : (w7.setCell ⟨bb, 3, none⟩ (.int .i64 0)).heap[bb]? = some (.cells #[.int .i64 (bld p M0).n, ve, va, .int .i64 0, .int .i64 0, .map (some mb)] 66 (0, 0)) := by rw [setCell_block hBS.obj]; rfl
  have b4 : (w7.setCell ⟨bb, 3, none⟩ (.int .i64 0)).cell? ⟨bb, 4, none⟩ = some (.int .i64 0) := (cell_of_row _ _ 4 _ _ _ h8).trans rfl
  have y4 : (w7.setCell ⟨bb, 3, none⟩ (.int .i64 0)).frozen? ⟨bb, 4, none⟩ = false := free_cells h8
  have h9 : ((w7.setCell ⟨bb, 3, none⟩ (.int .i64 0)).setCell ⟨bb, 4, none⟩ (.int .i64 1)).heap[bb]? = some (.cells #[.int .i64 (bld p M0).n, ve, va, .int .i64 0, .int .i64 1, .map (some mb)] 66 (0, 0)) := by rw [setCell_block h8]; rfl
  have H9 := Lib.hid h9
  have HHB := Lib.hid hBS.obj
  have s0 : (w7.setCell ⟨bb, 3, none⟩ (.int .i64 0)).drew.cell? ⟨g, 0, none⟩ = some (.int .i64 0) := (World.cell?_of_block (Below.heap_setCell w7 ⟨bb, 3, none⟩ _ g hgb)).trans f0
  have s1 : (w7.setCell ⟨bb, 3, none⟩ (.int .i64 0)).drew.cell? ⟨g, 1, none⟩ = some (.int .i64 1) := (World.cell?_of_block (Below.heap_setCell w7 ⟨bb, 3, none⟩ _ g hgb)).trans f1
  rw [hw7, hg]
  clear hw7 hb7 hf7 hBS f0 f1 k0 k1 k2 k3 k4 k5 k6 k7 h8 h9
  refine region_goes 13 14 rfl (fun W => W.cell? ⟨g, 0, none⟩ = some (.int .i64 0) ∧ W.cell? ⟨g, 1, none⟩ = some (.int .i64 1)) mixed ⟨e0, e1⟩ (fun hHeld => ?_)
  refine goes_take (i := 0) (v := ?gv1) rfl (by kernel_rfl) (by kernel_rfl) (by kernel_rfl) (by kernel_rfl) (fun _ _ _ h => h) (Or.inl ⟨by rfl, ?gy1⟩) (by assumption) ?gr1
  case gy1 => (intro W9 hW9; obtain ⟨j0, j1⟩ := hW9; first | (go_simp; done) | (go_simp; with_reducible rfl))
  simp only [Act.put, List.getElem_toArray, List.getElem_cons_succ, List.getElem_cons_zero, List.setIfInBounds_toArray, List.set_cons_zero, List.set_cons_succ]
  refine goes_take (i := 1) (v := ?gv2) rfl (by kernel_rfl) (by kernel_rfl) (by kernel_rfl) (by kernel_rfl) (fun _ _ _ h => h) (Or.inl ⟨by rfl, ?gy2⟩) (by assumption) ?gr2
  case gy2 => (intro W9 hW9; obtain ⟨j0, j1⟩ := hW9; first | (go_simp; done) | (go_simp; with_reducible rfl))
  simp only [Act.put, List.getElem_toArray, List.getElem_cons_succ, List.getElem_cons_zero, List.setIfInBounds_toArray, List.set_cons_zero, List.set_cons_succ]
  refine goes_take (i := 2) (v := ?gv3) rfl (by kernel_rfl) (by kernel_rfl) (by kernel_rfl) (by kernel_rfl) (fun _ _ _ h => h) (Or.inl ⟨by rfl, ?gy3⟩) (by assumption) ?gr3
  case gy3 => (intro W9 hW9; obtain ⟨j0, j1⟩ := hW9; first | (go_simp; done) | (go_simp; with_reducible rfl))
  simp only [Act.put, List.getElem_toArray, List.getElem_cons_succ, List.getElem_cons_zero, List.setIfInBounds_toArray, List.set_cons_zero, List.set_cons_succ]
  refine goes_take (i := 3) (v := ?gv4) rfl (by kernel_rfl) (by kernel_rfl) (by kernel_rfl) (by kernel_rfl) (fun _ _ _ h => h) (Or.inl ⟨by rfl, ?gy4⟩) (by assumption) ?gr4
  case gy4 => (intro W9 hW9; obtain ⟨j0, j1⟩ := hW9; first | (go_simp; done) | (go_simp; with_reducible rfl))
  simp only [Act.put, List.getElem_toArray, List.getElem_cons_succ, List.getElem_cons_zero, List.setIfInBounds_toArray, List.set_cons_zero, List.set_cons_succ]
  refine goes_take (i := 4) (v := ?gv5) rfl (by kernel_rfl) (by kernel_rfl) (by kernel_rfl) (by kernel_rfl) (fun _ _ _ h => h) (Or.inl ⟨by rfl, ?gy5⟩) (by assumption) ?gr5
  case gy5 => (intro W9 hW9; obtain ⟨j0, j1⟩ := hW9; first | (go_simp; done) | (go_simp; with_reducible rfl))
  simp only [Act.put, List.getElem_toArray, List.getElem_cons_succ, List.getElem_cons_zero, List.setIfInBounds_toArray, List.set_cons_zero, List.set_cons_succ]
  refine goes_take (i := 5) (v := ?gv6) rfl (by kernel_rfl) (by kernel_rfl) (by kernel_rfl) (by kernel_rfl) (fun _ _ _ h => h) (Or.inl ⟨by rfl, ?gy6⟩) (by assumption) ?gr6
  case gy6 => (intro W9 hW9; obtain ⟨j0, j1⟩ := hW9; first | (go_simp; done) | (go_simp; with_reducible rfl))
  simp only [Act.put, List.getElem_toArray, List.getElem_cons_succ, List.getElem_cons_zero, List.setIfInBounds_toArray, List.set_cons_zero, List.set_cons_succ]
  refine goes_take (i := 6) (v := ?gv7) rfl (by kernel_rfl) (by kernel_rfl) (by kernel_rfl) (by kernel_rfl) (fun _ _ _ h => h) (Or.inl ⟨by rfl, ?gy7⟩) (by assumption) ?gr7
  case gy7 => (intro W9 hW9; obtain ⟨j0, j1⟩ := hW9; first | (go_simp; done) | (go_simp; with_reducible rfl))
  simp only [Act.put, List.getElem_toArray, List.getElem_cons_succ, List.getElem_cons_zero, List.setIfInBounds_toArray, List.set_cons_zero, List.set_cons_succ]
  refine goes_take (i := 7) (v := ?gv8) rfl (by kernel_rfl) (by kernel_rfl) (by kernel_rfl) (by kernel_rfl) (fun _ _ _ h => h) (Or.inl ⟨by rfl, ?gy8⟩) (by assumption) ?gr8
  case gy8 => (intro W9 hW9; obtain ⟨j0, j1⟩ := hW9; first | (go_simp; done) | (go_simp; with_reducible rfl))
  simp only [Act.put, List.getElem_toArray, List.getElem_cons_succ, List.getElem_cons_zero, List.setIfInBounds_toArray, List.set_cons_zero, List.set_cons_succ]
  refine goes_take (i := 8) (v := ?gv9) rfl (by kernel_rfl) (by kernel_rfl) (by kernel_rfl) (by kernel_rfl) (fun _ _ _ h => h) (Or.inl ⟨by rfl, ?gy9⟩) (by assumption) ?gr9
  case gy9 => (intro W9 hW9; obtain ⟨j0, j1⟩ := hW9; first | (go_simp; done) | (go_simp; with_reducible rfl))
  simp only [Act.put, List.getElem_toArray, List.getElem_cons_succ, List.getElem_cons_zero, List.setIfInBounds_toArray, List.set_cons_zero, List.set_cons_succ]
  refine goes_one (i := 9) (by kernel_rfl) rfl (fun K9 hK9 => ?_)
  go_simp
  refine hK9.out _ _ (fun _ => ⟨s0, s1⟩) (fun hHeld => ?_)
  have hHeld := hHeld (by decide)
  clear hK9 K9
  refine goes_one (i := 10) (by kernel_rfl) rfl (fun K9 hK9 => ?_)
  go_simp
  refine hK9.out _ _ (fun _ => hHeld) (fun hHeld => ?_)
  have hHeld := hHeld (by decide)
  clear hK9 K9
  refine goes_one (i := 11) (by kernel_rfl) rfl (fun K9 hK9 => ?_)
  go_simp
  refine hK9.out _ _ (fun _ => hHeld) (fun hHeld => ?_)
  have hHeld := hHeld (by decide)
  clear hK9 K9
  refine goes_one (i := 12) (by kernel_rfl) rfl (fun K9 hK9 => ?_)
  go_simp
  refine hK9.out _ _ (fun _ => hHeld) (fun hHeld => ?_)
  have hHeld := hHeld (by decide)
  clear hK9 K9
  refine goes_one (i := 13) (by kernel_rfl) rfl (fun K9 hK9 => ?_)
  go_simp
  refine hK9.out _ _ (fun h => absurd rfl h) (fun _ => ?_)
  clear hK9 K9
  refine goes_done (by kernel_rfl) ?_ _
  obtain ⟨w9, hw9⟩ : ∃ w9, ((w7.setCell ⟨bb, 3, none⟩ (.int .i64 0)).setCell ⟨bb, 4, none⟩ (.int .i64 1)).drew = w9 := ⟨_, rfl⟩
  have hset : ∀ (k : Nat) (o : Obj), w7.heap[k]? = some o → k ≠ bb → w9.heap[k]? = some o := fun k o h1 h2 => by
    rw [← hw9]
    show ((w7.setCell ⟨bb, 3, none⟩ (.int .i64 0)).setCell ⟨bb, 4, none⟩ (.int .i64 1)).heap[k]? = some o
    rw [Below.heap_setCell _ _ _ _ (by show k ≠ bb; exact h2), Below.heap_setCell _ _ _ _ (by show k ≠ bb; exact h2)]; exact h1
  have hbl9 : Below w4.heap.size w4 w9 := by
    rw [← hw9]
    exact ((HBS.out.below.setCell (p := ⟨bb, 3, none⟩) HBS.out.lo _).setCell (p := ⟨bb, 4, none⟩) HBS.out.lo _).drew
  have hne : ∀ (k : Nat) (o : Obj), w7.heap[k]? = some o → (∀ cs, o ≠ .cells cs 66 (0, 0)) → k ≠ bb := fun k o h1 h2 e => by
    subst e
    have h3 := HHB.out
    rw [h1] at h3
    exact h2 _ (Option.some.inj h3)
  have hr9 := hset (N + 1) _ HR7.out (hne _ _ HR7.out (fun cs e => by cases e))
  have hn9 : ∀ (k : Nat) (cs : Array Value) (t : TypeId), w7.heap[k]? = some (.cells cs t (0, 0)) → t ≠ 27 → k ≠ N + 1 := fun k cs t h1 h2 e => by
    subst e
    have h3 := HR7.out
    rw [h1] at h3
    cases h3; exact h2 rfl
  have hre : ∀ (k : Nat) (cs : Array Value), w7.heap[k]? = some (.cells cs 75 (0, 0)) → w9.heap[k]? = some (.cells cs 75 (0, 0)) ∧ k ≠ N + 1 := fun k cs h1 => ⟨hset k _ h1 (hne k _ h1 (fun cs e => by cases e)), hn9 k _ _ h1 (by decide)⟩
  have hra : ∀ (k : Nat) (cs : Array Value), w7.heap[k]? = some (.cells cs 78 (0, 0)) → w9.heap[k]? = some (.cells cs 78 (0, 0)) ∧ k ≠ N + 1 := fun k cs h1 => ⟨hset k _ h1 (hne k _ h1 (fun cs e => by cases e)), hn9 k _ _ h1 (by decide)⟩
  have h9b := H9.out
  have q : w9.heap[bb]? = some (.cells #[.int .i64 (bld p M0).n, ve, va, .int .i64 0, .int .i64 1, .map (some mb)] 66 (0, 0)) := by rw [← hw9]; exact h9b
  have q0 : w9.cell? ⟨bb, 0, none⟩ = some (.int .i64 (bld p M0).n) := (cell_of_row _ _ 0 _ _ _ q).trans rfl
  have q1 : w9.cell? ⟨bb, 1, none⟩ = some ve := (cell_of_row _ _ 1 _ _ _ q).trans rfl
  have q2 : w9.cell? ⟨bb, 2, none⟩ = some va := (cell_of_row _ _ 2 _ _ _ q).trans rfl
  have q3 : w9.cell? ⟨bb, 3, none⟩ = some (.int .i64 0) := (cell_of_row _ _ 3 _ _ _ q).trans rfl
  have q4 : w9.cell? ⟨bb, 4, none⟩ = some (.int .i64 1) := (cell_of_row _ _ 4 _ _ _ q).trans rfl
  have hcn : (bld p M0).n = p.cnt := by rw [bld_n p HG.out HP.out]; simp [M0]
  rw [hcn] at q0
  obtain ⟨z0, z1, z2, z3, z4, v0, v1, v2, v3, v4⟩ := nfa_cells hr9
  obtain ⟨ae, ne, ce, hve⟩ : ∃ a n c, ve = .slice a n c := by
    rcases HBS.out.re.2 with ⟨h, _⟩ | ⟨g', cap', cur, h, _⟩
    · exact ⟨_, _, _, h⟩
    · exact ⟨_, _, _, h⟩
  obtain ⟨aa, na, ca, hva⟩ : ∃ a n c, va = .slice a n c := by
    rcases HBS.out.ra.2 with ⟨h, _⟩ | ⟨g', cap', cur, h, _⟩
    · exact ⟨_, _, _, h⟩
    · exact ⟨_, _, _, h⟩
  have HRE : Hid (∀ x0 x1 x2 x3 x4, RowE (((((w9.setCell ⟨N + 1, 0, none⟩ x0).setCell ⟨N + 1, 1, none⟩ x1).setCell ⟨N + 1, 2, none⟩ x2).setCell ⟨N + 1, 3, none⟩ x3).setCell ⟨N + 1, 4, none⟩ x4) ve (bld p M0).e) := Lib.hid fun x0 x1 x2 x3 x4 => ⟨_, row_keep HBS.out.re fun k cs _ h1 => by rw [heap_five (hre k cs h1).2]; exact (hre k cs h1).1⟩
  have HRAA : Hid (∀ x0 x1 x2 x3 x4, RowA (((((w9.setCell ⟨N + 1, 0, none⟩ x0).setCell ⟨N + 1, 1, none⟩ x1).setCell ⟨N + 1, 2, none⟩ x2).setCell ⟨N + 1, 3, none⟩ x3).setCell ⟨N + 1, 4, none⟩ x4) va (bld p M0).a) := Lib.hid fun x0 x1 x2 x3 x4 => ⟨_, row_keep HBS.out.ra fun k cs _ h1 => by rw [heap_five (hra k cs h1).2]; exact (hra k cs h1).1⟩
  have HBL : Hid (∀ x0 x1 x2 x3 x4, Below N w (((((w9.setCell ⟨N + 1, 0, none⟩ x0).setCell ⟨N + 1, 1, none⟩ x1).setCell ⟨N + 1, 2, none⟩ x2).setCell ⟨N + 1, 3, none⟩ x3).setCell ⟨N + 1, 4, none⟩ x4)) := Lib.hid fun x0 x1 x2 x3 x4 => below_five (HB4.out.trans (hbl9.mono (by omega))) (Nat.le_succ N) _ _ _ _ _
  rw [hw9]
  clear hw9 hset hne hn9 hre hra h9b q hr9 HBS HHB H9 hbl9 b3 b4 y3 y4 s0 s1 e0 e1
  subst hve hva
  go_wp2
  exact bodyPost_ret (v := .tuple #[.agg #[.int .i64 p.cnt, .slice ae ne ce, .slice aa na ca, .int .i64 0, .int .i64 1], .int .i64 0]) (by simp [results, Tryd.results8, go_sem, *]) rfl (.inr (.inr ⟨HF.out, HP.out, by rw [HST.out]; omega, _, _, rfl, Lib.hid (HRE.out _ _ _ _ _), Lib.hid (HRAA.out _ _ _ _ _), Lib.hid (HBL.out _ _ _ _ _)⟩))
end Go.Proofs.YtpfhhdiipedklaaDoor
set_option maxRecDepth 100000
namespace Go.Proofs.YtpfhhdiipedklaaDoor
open Go.RowKit

/-- What a map's entries have at a number: nil where there is none. -/
def IsAt (es : Array MapEntry) (k : Int) (v : Value) : Prop := (∃ x ∈ es.toList, x.key = .int .i64 k ∧ x.val = v) ∨ ((∀ x ∈ es.toList, x.key ≠ .int .i64 k) ∧ v = .slice none 0 0)
/-- Entries keyed by ints, no key twice. -/
structure Keyd (es : Array MapEntry) : Prop where
  int : ∀ x ∈ es.toList, MapKept.IsKey (.int .i64) x.key
  once : (es.toList.map (·.key)).Nodup
theorem nodup_same {l : List MapEntry} (h : (l.map (·.key)).Nodup) {x y : MapEntry} (hx : x ∈ l) (hy : y ∈ l) (e : x.key = y.key) : x = y := by
  induction l with
  | nil => cases hx
  | cons a l ih =>
    rw [List.map_cons, List.nodup_cons] at h
    rcases List.mem_cons.1 hx with h1 | h1 <;> rcases List.mem_cons.1 hy with h2 | h2
    · rw [h1, h2]
    · exact absurd (List.mem_map.2 ⟨y, h2, by rw [← e, h1]⟩) h.1
    · exact absurd (List.mem_map.2 ⟨x, h1, by rw [e, h2]⟩) h.1
    · exact ih h.2 h1 h2
theorem IsAt.same {es : Array MapEntry} (h : Keyd es) {k : Int} {v v' : Value} (h1 : IsAt es k v) (h2 : IsAt es k v') : v = v' := by
  rcases h1 with ⟨x, hx, e1, rfl⟩ | ⟨h1, rfl⟩ <;> rcases h2 with ⟨y, hy, e2, rfl⟩ | ⟨h2, rfl⟩
  · rw [nodup_same h.once hx hy (e1.trans e2.symm)]
  · exact absurd e1 (h2 x hx)
  · exact absurd e2 (h1 y hy)
  · rfl
theorem keyd_empty : Keyd #[] := ⟨by simp, by simp⟩
theorem isAt_empty (k : Int) : IsAt #[] k (.slice none 0 0) := .inr ⟨by simp, rfl⟩
/-- A look at a number. -/
theorem look_int {w : World} {b c : Nat} {es : Array MapEntry} {t e : TypeId} (hm : Tryd.prog.underlying t = some (.map 3 e)) (hz : (zeroValue e).run Tryd.prog w = .ok (.slice none 0 0) w) (hb : w.heap[b]? = some (.map es c)) (h : Keyd es) (k : Int) :
    ∃ v, IsAt es k v ∧ (Instr.lookup t (.map (some b)) (.int .i64 k) false).run Tryd.prog w = .ok v w := by
  have hk : Tryd.prog.underlying 3 = some (.int .i64) := Tryd.underlying3
  have hik : MapKept.IsKey (.int .i64) (.int .i64 k) := rfl
  have hc : (Instr.checkKey es.isEmpty 10000 3 (.int .i64 k)).run Tryd.prog w = .ok () w := MapKept.run_checkKey hk hik _ _
  rcases MapKept.findNow_spec hik es.toList 0 h.int with ⟨h1, h2⟩ | ⟨j, x, h1, h2, h3⟩
  · refine ⟨.slice none 0 0, .inr ⟨h2, rfl⟩, ?_⟩
    simp [Instr.lookup, run_underlying hm, MapKept.run_getObj_map hb, hc, MapKept.run_findKey hk h1, Result.andThen, hz]
  · refine ⟨x.val, .inl ⟨x, List.mem_of_getElem? h2, h3, rfl⟩, ?_⟩
    simp [Instr.lookup, run_underlying hm, MapKept.run_getObj_map hb, hc, MapKept.run_findKey hk h1, Result.andThen]
/-- A store at a number. -/
theorem put_int {w : World} {b c : Nat} {es : Array MapEntry} {t e : TypeId} (hm : Tryd.prog.underlying t = some (.map 3 e)) (hb : w.heap[b]? = some (.map es c)) (h : Keyd es) (k : Int) (v : Value) :
    ∃ es' c', (Instr.mapUpdate t (.map (some b)) (.int .i64 k) v).run Tryd.prog w = .ok () (setMap w b es' c') ∧ Keyd es' ∧ IsAt es' k v ∧ ∀ k' u, k' ≠ k → (IsAt es k' u → IsAt es' k' u) := by
  have hk : Tryd.prog.underlying 3 = some (.int .i64) := Tryd.underlying3
  have hik : MapKept.IsKey (.int .i64) (.int .i64 k) := rfl
  rcases MapKept.findNow_spec hik es.toList 0 h.int with ⟨h1, h2⟩ | ⟨j, x, h1, h2, h3⟩
  · refine ⟨es.push { key := .int .i64 k, val := v, born := c }, c + 1, put_new hm hk hik hb h1, ⟨?_, ?_⟩, ?_, ?_⟩
    · intro y hy
      simp only [Array.toList_push, List.mem_append, List.mem_singleton] at hy
      rcases hy with hy | rfl
      · exact h.int y hy
      · exact hik
    · simp only [Array.toList_push, List.map_append, List.map_cons, List.map_nil]
      refine List.nodup_append.2 ⟨h.once, by simp, ?_⟩
      intro a ha b hb
      simp only [List.mem_singleton] at hb
      subst hb
      obtain ⟨y, hy, rfl⟩ := List.mem_map.1 ha
      exact h2 y hy
    · exact .inl ⟨{ key := .int .i64 k, val := v, born := c }, by simp, rfl, rfl⟩
    · intro k' u hne hu
      rcases hu with ⟨y, hy, e1, e2⟩ | ⟨hn, rfl⟩
      · exact .inl ⟨y, by rw [Array.toList_push]; exact List.mem_append_left _ hy, e1, e2⟩
      · refine .inr ⟨fun y hy => ?_, rfl⟩
        simp only [Array.toList_push, List.mem_append, List.mem_singleton] at hy
        rcases hy with hy | rfl
        · exact hn y hy
        · exact fun e => hne (by cases e; rfl)
  · have hj : es[j]? = some x := by simpa using h2
    have hx : x ∈ es.toList := List.mem_of_getElem? h2
    have hkey : ∀ e', es[j]? = some e' → ({ e' with key := .int .i64 k, val := v } : MapEntry).key = e'.key := fun e' he' => by rw [hj] at he'; cases he'; exact h3.symm
    have hmem : ∀ y, y ∈ (es.modify j fun e => { e with key := .int .i64 k, val := v }).toList ↔ (y = { x with key := .int .i64 k, val := v } ∨ (y ∈ es.toList ∧ y ≠ x)) := by
      intro y
      rw [List.mem_iff_getElem?]
      constructor
      · rintro ⟨i, hi⟩
        rw [Array.getElem?_toList, Array.getElem?_modify] at hi
        by_cases hij : j = i
        · subst hij
          rw [if_pos rfl, hj] at hi
          left; simpa using hi.symm
        · rw [if_neg hij] at hi
          have hyl : y ∈ es.toList := List.mem_of_getElem? (by rw [Array.getElem?_toList]; exact hi)
          refine .inr ⟨hyl, fun e => ?_⟩
          subst e
          have h8 := (List.getElem?_eq_some_iff.1 (show es.toList[i]? = some y by rw [Array.getElem?_toList]; exact hi))
          have h9 := (List.getElem?_eq_some_iff.1 h2)
          have := (List.getElem_inj (xs := es.toList.map (·.key)) (h₀ := by simpa using h9.1) (h₁ := by simpa using h8.1) h.once).1 (by simp only [List.getElem_map]; rw [h9.2, h8.2])
          exact hij this
      · rintro (rfl | ⟨hy, hne⟩)
        · refine ⟨j, ?_⟩
          rw [Array.getElem?_toList, Array.getElem?_modify, if_pos rfl, hj]; rfl
        · obtain ⟨i, hi⟩ := List.mem_iff_getElem?.1 hy
          refine ⟨i, ?_⟩
          rw [Array.getElem?_toList] at hi
          rw [Array.getElem?_toList, Array.getElem?_modify, if_neg (fun e => by subst e; rw [hj] at hi; cases hi; exact hne rfl)]
          exact hi
    refine ⟨es.modify j fun e => { e with key := .int .i64 k, val := v }, c, ?_, ⟨MapKept.isKey_modify h.int _ _ hkey, ?_⟩, ?_, ?_⟩
    · simp [Instr.mapUpdate, run_underlying hm, MapKept.run_getObj_map hb, MapKept.run_checkKey hk hik, MapKept.run_findKey hk h1, hj, h3, MapKept.run_keyThatStays hik, MapKept.run_setObj_map _ hb, Result.andThen, setMap]
    · rw [MapKept.modify_keys _ _ hkey]; exact h.once
    · exact .inl ⟨_, (hmem _).2 (.inl rfl), rfl, rfl⟩
    · intro k' u hne hu
      rcases hu with ⟨y, hy, e1, e2⟩ | ⟨hn, rfl⟩
      · refine .inl ⟨y, (hmem y).2 (.inr ⟨hy, fun e => ?_⟩), e1, e2⟩
        subst e; rw [h3] at e1; cases e1; exact hne rfl
      · refine .inr ⟨fun y hy => ?_, rfl⟩
        rcases (hmem y).1 hy with rfl | ⟨hy, _⟩
        · exact fun e => hne (by cases e; rfl)
        · exact hn y hy
/-- A map from numbers to rows; each row lies in a block of its own, from block B on. -/
structure GM (w : World) (b B : Nat) (e : TypeId) (sz : Nat) (F : Int → List (List Value)) : Prop where
  map : ∃ es c, w.heap[b]? = some (.map es c) ∧ Keyd es ∧ (∀ k, ∃ v, IsAt es k v ∧ w.ownsRow B e sz v (F k).length (F k).flatten) ∧
    ∀ k k' v v' g, IsAt es k v → IsAt es k' v' → v.ownBlock = some g → v'.ownBlock = some g → k = k'
theorem GM.new {w : World} {b B : Nat} (e : TypeId) (sz : Nat) (h : w.heap[b]? = some (.map #[] 0)) : GM w b B e sz (fun _ => []) :=
  ⟨_, _, h, keyd_empty, fun k => ⟨_, isAt_empty k, World.ownsRow_nil _ _ _ _⟩, fun k k' v v' g h1 _ h3 => by
    obtain rfl := IsAt.same keyd_empty h1 (isAt_empty k)
    cases h3⟩
theorem GM.keep {w w' : World} {b B : Nat} {e : TypeId} {sz : Nat} {F : Int → List (List Value)} (h : GM w b B e sz F) (hb : ∀ es c, w.heap[b]? = some (.map es c) → w'.heap[b]? = some (.map es c)) (hr : ∀ g cs, w.heap[g]? = some (.cells cs e (0, 0)) → B ≤ g → w'.heap[g]? = some (.cells cs e (0, 0))) : GM w' b B e sz F := by
  obtain ⟨es, c, h1, h2, h3, h4⟩ := h.map
  refine ⟨es, c, hb es c h1, h2, fun k => ?_, h4⟩
  obtain ⟨v, h5, h6⟩ := h3 k
  exact ⟨v, h5, row_keep h6 fun g cs h7 h8 => hr g cs h8 (h6.lt g h7).1⟩
theorem GM.below {w w' : World} {b B : Nat} {e : TypeId} {sz : Nat} {F : Int → List (List Value)} (h : GM w b B e sz F) (hb : Below w.heap.size w w') : GM w' b B e sz F :=
  h.keep (fun _ _ h1 => (hb.block _ (lt_of_block h1)).trans h1) fun _ _ h1 _ => (hb.block _ (lt_of_block h1)).trans h1
/-- Behind an append to one of its rows and a store of it. -/
theorem GM.push {w w7 w8 : World} {b B g cap n : Nat} {e t et : TypeId} {sz : Nat} {F : Int → List (List Value)} {k : Int} {v : Value} {x : List Value} (h : GM w b B e sz F) (hm : Tryd.prog.underlying t = some (.map 3 et))
    {es : Array MapEntry} {c : Nat} (he : w.heap[b]? = some (.map es c)) (hv : IsAt es k v) (hn : (F k).length = n) (h7 : Below w.heap.size w w7) (hg : w7.grownBy w8 v.ownBlock)
    (hrow : w8.ownsRow B e sz (.slice (some ⟨g, 0, none⟩) (n + 1) cap) (n + 1) ((F k).flatten ++ x)) (hat : v.ownBlock = some g ∨ w.heap.size ≤ g) :
    ∃ w9, (Instr.mapUpdate t (.map (some b)) (.int .i64 k) (.slice (some ⟨g, 0, none⟩) (n + 1) cap)).run Tryd.prog w8 = .ok () w9 ∧ GM w9 b B e sz (fun j => if j = k then F k ++ [x] else F j) ∧
      w8.heap.size = w9.heap.size ∧ (∀ N, N ≤ b → Below N w8 w9) ∧ ∀ j o, w.heap[j]? = some o → j ≠ b → v.ownBlock ≠ some j → w9.heap[j]? = some o := by
  obtain ⟨es0, c0, he0, hkd, hrows, hdis⟩ := h.map
  rw [he] at he0
  obtain ⟨rfl, rfl⟩ : es = es0 ∧ c = c0 := by cases he0; exact ⟨rfl, rfl⟩
  have hvb : v.ownBlock ≠ some b := fun e1 => by
    obtain ⟨v2, h5, h6⟩ := hrows k
    obtain rfl := IsAt.same hkd h5 hv
    obtain ⟨cs, h8⟩ := row_block h6 e1
    rw [he] at h8; cases h8
  have h8 : ∀ j o, w.heap[j]? = some o → v.ownBlock ≠ some j → w8.heap[j]? = some o := fun j o h1 h2 => by
    have hj := lt_of_block h1
    rw [hg.block j (by have := h7.size; omega) (fun e => h2 e.symm), h7.block j hj]; exact h1
  have he8 := h8 b _ he hvb
  obtain ⟨es', c', hrun, hkd', hnew, hold⟩ := put_int hm he8 hkd k (.slice (some ⟨g, 0, none⟩) (n + 1) cap)
  have hset : ∀ j o, w8.heap[j]? = some o → j ≠ b → (setMap w8 b es' c').heap[j]? = some o := fun j o h1 h2 => by
    simp only [setMap, Array.getElem?_setIfInBounds]
    rw [if_neg (fun e => h2 e.symm)]; exact h1
  have hnb : ∀ j cs, w8.heap[j]? = some (.cells cs e (0, 0)) → j ≠ b := fun j cs h1 e1 => by
    subst e1; rw [he8] at h1; cases h1
  refine ⟨_, hrun, ⟨es', c', setMap_new _ _ _ _ _ _ he8, hkd', fun j => ?_, ?_⟩, by simp [setMap], fun N hN => setMap_below _ _ (Below.refl _ _) hN, fun j o h1 h2 h3 => hset j o (h8 j o h1 h3) h2⟩
  · by_cases hjk : j = k
    · subst hjk
      refine ⟨_, hnew, ?_⟩
      rw [if_pos rfl]
      simp only [List.length_append, List.length_singleton, List.flatten_append, List.flatten_singleton, hn]
      exact row_keep hrow fun g2 cs _ h2 => hset g2 _ h2 (hnb g2 cs h2)
    · obtain ⟨u, h5, h6⟩ := hrows j
      refine ⟨u, hold j u hjk h5, ?_⟩
      rw [if_neg hjk]
      exact row_keep h6 fun g2 cs h1 h2 => by
        have h9 := h8 g2 _ h2 (fun e1 => hjk (hdis j k u v g2 h5 hv h1 e1))
        exact hset g2 _ h9 (hnb g2 cs h9)
  · have hfar : ∀ j u g2, j ≠ k → IsAt es' j u → u.ownBlock = some g2 → g2 ≠ g := fun j u g2 hj hu h1 e1 => by
      obtain ⟨u2, h5, h6⟩ := hrows j
      obtain rfl := IsAt.same hkd' (hold j u2 hj h5) hu
      subst e1
      rcases hat with h2 | h2
      · exact hj (hdis j k u2 v g2 h5 hv h1 h2)
      · obtain ⟨cs, h8⟩ := row_block h6 h1
        have := lt_of_block h8; omega
    intro j j' u u' g2 hu hu' h1 h2
    by_cases hj : j = k <;> by_cases hj' : j' = k
    · rw [hj, hj']
    · subst hj
      obtain rfl := IsAt.same hkd' hu hnew
      exact absurd (by simpa [Value.ownBlock] using h1.symm) (hfar j' u' g2 hj' hu' h2)
    · subst hj'
      obtain rfl := IsAt.same hkd' hu' hnew
      exact absurd (by simpa [Value.ownBlock] using h2.symm) (hfar j u g2 hj hu h1)
    · obtain ⟨u2, h5, h6⟩ := hrows j
      obtain ⟨u3, h7', h9⟩ := hrows j'
      obtain rfl := IsAt.same hkd' (hold j u2 hj h5) hu
      obtain rfl := IsAt.same hkd' (hold j' u3 hj' h7') hu'
      exact hdis j j' u2 u3 g2 h5 h7' h1 h2
end Go.Proofs.YtpfhhdiipedklaaDoor
