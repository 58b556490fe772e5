/- Texts that a proof rests on: Contract of the reference's loose. | Contracts of the reference's kid, joined. -/
import Derived.Test.YtkpfpegjapddfaaGreatDoorK40
set_option maxRecDepth 20000
namespace Go.Proofs.YtkpfpegjapddfaaGreatDoor
open Go.RowKit

theorem loose_of (p : Pat) : p.shw.1 = levOf p.inn.op p.inn.kids.length := by
  rw [← shw_inn _ p (Nat.le_refl _), shw_self (inn_size _ p (Nat.le_refl _)).2]
theorem lev_self {p : Pat} (h : ¬(isL p.op = true ∧ p.kids.length = 1)) : p.shw.1 = levOf p.op p.kids.length := by rw [shw_self h]
set_option maxHeartbeats 4000000 in
theorem loose_any : ∀ (n : Nat) (p : Pat) (a : Option Addr) (c : Nat) (w : World), p.size < n → Kids w p.kids (.slice a p.kids.length c) →
    Calls Tryz.prog 47 #[(.agg #[.int .i64 p.op, .int .u64 (wd p.set 0), .int .u64 (wd p.set 1), .int .u64 (wd p.set 2), .int .u64 (wd p.set 3), .int .i64 p.lo, .int .i64 p.hi, .slice a p.kids.length c])] w fun e w' => e = .returned (.int .i64 (4 - p.shw.1)) ∧ Below w.heap.size w w'
  | 0, p, a, c, w, h, _ => by omega
  | n + 1, p, a, c, w, h, hk => by
    have hal := below_one w (.cells #[.int .i64 p.op, .int .u64 (wd p.set 0), .int .u64 (wd p.set 1), .int .u64 (wd p.set 2), .int .u64 (wd p.set 3), .int .i64 p.lo, .int .i64 p.hi, .slice a p.kids.length c] 28)
    obtain ⟨r, hr⟩ : ∃ z, 4 - p.shw.1 = z := ⟨_, rfl⟩
    rw [hr]
    by_cases hl : isL p.op = true ∧ p.kids.length = 1
    · obtain ⟨k, hk1⟩ := List.length_eq_one_iff.1 hl.2
      obtain ⟨b', o', ea, hnode⟩ := kidAt hk 0 (by omega)
      replace hnode : NodeAt w k b' o' := by simpa [hk1] using hnode
      subst ea
      obtain ⟨ks2, hk2, k0, k1, k2, k3, k4, k5, k6, k7⟩ := hnode.load
      obtain ⟨a2, c2, rfl⟩ := hk2.len
      have hs := size_eq p
      rw [hk1] at hs
      simp only [Pat.sizes] at hs
      have ih := loose_any n k a2 c2 (w.alloc (.cells #[.int .i64 p.op, .int .u64 (wd p.set 0), .int .u64 (wd p.set 1), .int .u64 (wd p.set 2), .int .u64 (wd p.set 3), .int .i64 p.lo, .int .i64 p.hi, .slice (some ⟨b', o', none⟩) p.kids.length c] 28)) (by omega) (hk2.below hal)
      rw [← shw_one hl.1 hk1, hr] at ih
      have k0 := cell_below hal k0; have k1 := cell_below hal k1; have k2 := cell_below hal k2; have k3 := cell_below hal k3; have k4 := cell_below hal k4; have k5 := cell_below hal k5; have k6 := cell_below hal k6; have k7 := cell_below hal k7
      have hb : ((p.kids.length : Int) == 1) = true := by rw [hl.2]; rfl
      have hpos : 0 < p.kids.length := by omega
      have hi := hl.1
      unfold isL at hi
      clear hnode hk2 hk hl hk1 hr hs h
      cases q1 : (p.op == 1) <;> cases q2 : (p.op == 2) <;> cases q4 : (p.op == 4)
      · rw [q1, q2, q4] at hi; exact absurd hi (by decide)
      all_goals
        clear hi
        go_enter Tryz.func47, Tryz.ntmps47
        go_wp2_with (go_at_call 47; refine ih.mono ?_; rintro e w2 ⟨rfl, hb2⟩)
        go_ret
        exact ⟨rfl, below_step hal hb2⟩
    · have hlev := lev_self hl
      rw [hlev] at hr
      unfold levOf at hr
      have hne : isL p.op = true → ((p.kids.length : Int) == 1) = false := fun h1 => by
        rw [beq_eq_false_iff_ne]
        intro h2
        exact hl ⟨h1, by omega⟩
      have hbl : ∀ j : Int, p.op ≠ j → (p.op == j) = false := fun j h => by rw [beq_eq_false_iff_ne]; exact h
      by_cases o2 : p.op = 2
      · have hb := hne (by unfold isL; rw [o2]; rfl)
        have q1 := hbl 1 (by omega)
        have q2 : (p.op == 2) = true := by rw [o2]; rfl
        have q4 := hbl 4 (by omega)
        have q5 := hbl 5 (by omega)
        rw [if_pos o2] at hr
        by_cases hz : p.kids.length = 0
        · rw [if_pos hz] at hr
          have hz2 : ¬ 0 < p.kids.length := by omega
          subst hr
          clear o2 hz hl hne hbl hlev h
          go_enter Tryz.func47, Tryz.ntmps47
          go_wp2
          go_ret
          exact ⟨rfl, hal⟩
        · rw [if_neg hz] at hr
          have hz2 : 0 < p.kids.length := by omega
          subst hr
          clear o2 hz hl hne hbl hlev h
          go_enter Tryz.func47, Tryz.ntmps47
          go_wp2
          go_ret
          exact ⟨rfl, hal⟩
      rw [if_neg o2] at hr
      by_cases o4 : p.op = 4
      · have hb := hne (by unfold isL; rw [o4]; rfl)
        have q1 := hbl 1 (by omega)
        have q2 := hbl 2 o2
        have q4 : (p.op == 4) = true := by rw [o4]; rfl
        have q5 := hbl 5 (by omega)
        rw [if_pos o4] at hr
        by_cases hz : p.kids.length = 0
        · rw [if_pos hz] at hr
          have hz2 : ¬ 0 < p.kids.length := by omega
          subst hr
          clear o2 o4 hz hl hne hbl hlev h
          go_enter Tryz.func47, Tryz.ntmps47
          go_wp2
          go_ret
          exact ⟨rfl, hal⟩
        · rw [if_neg hz] at hr
          have hz2 : 0 < p.kids.length := by omega
          subst hr
          clear o2 o4 hz hl hne hbl hlev h
          go_enter Tryz.func47, Tryz.ntmps47
          go_wp2
          go_ret
          exact ⟨rfl, hal⟩
      rw [if_neg o4] at hr
      have q2 := hbl 2 o2
      have q4 := hbl 4 o4
      by_cases o1 : p.op = 1
      · have hb := hne (by unfold isL; rw [o1]; rfl)
        have q1 : (p.op == 1) = true := by rw [o1]; rfl
        have q5 := hbl 5 (by omega)
        rw [if_pos o1] at hr
        subst hr
        clear o1 o2 o4 hl hne hbl hlev h
        go_enter Tryz.func47, Tryz.ntmps47
        go_wp2
        go_ret
        exact ⟨rfl, hal⟩
      rw [if_neg o1] at hr
      have q1 := hbl 1 o1
      by_cases o5 : p.op = 5
      · have q5 : (p.op == 5) = true := by rw [o5]; rfl
        rw [if_pos o5] at hr
        subst hr
        clear o1 o2 o4 o5 hl hne hbl hlev h
        go_enter Tryz.func47, Tryz.ntmps47
        go_wp2
        go_ret
        exact ⟨rfl, hal⟩
      have q5 := hbl 5 o5
      rw [if_neg o5] at hr
      subst hr
      clear o1 o2 o4 o5 hl hne hbl hlev h
      go_enter Tryz.func47, Tryz.ntmps47
      go_wp2
      go_ret
      exact ⟨rfl, hal⟩
end Go.Proofs.YtkpfpegjapddfaaGreatDoor
set_option maxRecDepth 20000
namespace Go.Proofs.YtkpfpegjapddfaaGreatDoor
open Go.RowKit

/-- The reference shows p. -/
def RShowAt (p : Pat) : Prop := ∀ (a : Option Addr) (c : Nat) (w : World), Kids w p.kids (.slice a p.kids.length c) →
  Calls Tryz.prog 11 #[(.agg #[.int .i64 p.op, .int .u64 (wd p.set 0), .int .u64 (wd p.set 1), .int .u64 (wd p.set 2), .int .u64 (wd p.set 3), .int .i64 p.lo, .int .i64 p.hi, .slice a p.kids.length c])] w fun e w' => (∃ z : ByteArray, e = .returned (.string z) ∧ z.data.toList = p.shw.2) ∧ Below w.heap.size w w'
theorem loose_lit (p : Pat) (r : Int) (hr : 4 - p.shw.1 = r) (a : Option Addr) (c : Nat) (w : World) (hk : Kids w p.kids (.slice a p.kids.length c)) :
    Calls Tryz.prog 47 #[(.agg #[.int .i64 p.op, .int .u64 (wd p.set 0), .int .u64 (wd p.set 1), .int .u64 (wd p.set 2), .int .u64 (wd p.set 3), .int .i64 p.lo, .int .i64 p.hi, .slice a p.kids.length c])] w fun e w' => e = .returned (.int .i64 r) ∧ Below w.heap.size w w' := by
  subst hr
  exact loose_any (p.size + 1) p a c w (Nat.lt_succ_self _) hk
set_option maxHeartbeats 2000000 in
theorem kid_any (p : Pat) (hp : RShowAt p) (at1 : Int) (a : Option Addr) (c : Nat) (w : World) (hk : Kids w p.kids (.slice a p.kids.length c)) (hlen : p.shw.2.length ≤ 99999999) :
    Calls Tryz.prog 24 #[(.agg #[.int .i64 p.op, .int .u64 (wd p.set 0), .int .u64 (wd p.set 1), .int .u64 (wd p.set 2), .int .u64 (wd p.set 3), .int .i64 p.lo, .int .i64 p.hi, .slice a p.kids.length c]), .int .i64 at1] w fun e w' => (∃ z : ByteArray, e = .returned (.string z) ∧ z.data.toList = partOf (5 - at1) p.shw) ∧ Below w.heap.size w w' := by
  have hx0 := Box.new w #[.int .i64 p.op, .int .u64 (wd p.set 0), .int .u64 (wd p.set 1), .int .u64 (wd p.set 2), .int .u64 (wd p.set 3), .int .i64 p.lo, .int .i64 p.hi, .slice a p.kids.length c] rfl
  have b0 := below_one w (.cells #[.int .i64 p.op, .int .u64 (wd p.set 0), .int .u64 (wd p.set 1), .int .u64 (wd p.set 2), .int .u64 (wd p.set 3), .int .i64 p.lo, .int .i64 p.hi, .slice a p.kids.length c] 28)
  have hk0 := hk.below b0
  obtain ⟨c0, c1, c2, c3, c4, c5, c6, c7⟩ := hx0.cells
  unfold RShowAt at hp
  obtain ⟨r, hr⟩ : ∃ z, 4 - p.shw.1 = z := ⟨_, rfl⟩
  have hzs : ∀ z : ByteArray, z.data.toList = p.shw.2 → z.size ≤ 99999999 := fun z hz => by rw [← str_len, hz]; exact hlen
  unfold partOf
  by_cases h : at1 ≤ r
  · rw [if_pos (by omega)]
    have hd : decide (at1 ≤ r) = true := decide_eq_true h
    clear h
    go_enter Tryz.func24, Tryz.ntmps24
    go_wp2_with (first
      | (go_at_call 47; (with_reducible refine (loose_lit p r hr _ _ _ hk0).mono ?_); rintro e w1 ⟨rfl, hb1⟩; obtain ⟨d0, d1, d2, d3, d4, d5, d6, d7⟩ := (hx0.below hb1).cells; have hk1 := hk0.below hb1)
      | (go_at_call 11; (with_reducible refine (hp _ _ _ hk1).mono ?_); rintro e w2 ⟨⟨z, rfl, hz⟩, hb2⟩; have hz1 := hzs z hz))
    go_ret
    exact ⟨⟨_, rfl, by rw [str_cat, str_cat, hz]; simp⟩, below_step (below_step b0 hb1) hb2⟩
  · rw [if_neg (by omega)]
    have hd : decide (at1 ≤ r) = false := decide_eq_false h
    clear h
    go_enter Tryz.func24, Tryz.ntmps24
    go_wp2_with (first
      | (go_at_call 47; (with_reducible refine (loose_lit p r hr _ _ _ hk0).mono ?_); rintro e w1 ⟨rfl, hb1⟩; obtain ⟨d0, d1, d2, d3, d4, d5, d6, d7⟩ := (hx0.below hb1).cells; have hk1 := hk0.below hb1)
      | (go_at_call 11; (with_reducible refine (hp _ _ _ hk1).mono ?_); rintro e w2 ⟨⟨z, rfl, hz⟩, hb2⟩))
    go_ret
    exact ⟨⟨_, rfl, hz⟩, below_step (below_step b0 hb1) hb2⟩
theorem shw_le_row (sep : List UInt8) (least : Int) (l : List (Int × List UInt8)) (k : Nat) (h : k < l.length) : l[k].2.length ≤ (rowO sep least l).length ∧ (partOf least l[k]).length ≤ (rowO sep least l).length := by
  have h1 := rowO_le sep least l (k + 1)
  rw [rowO_take sep least l k h] at h1
  simp only [List.length_append] at h1
  have h2 : l[k].2.length ≤ (partOf least l[k]).length := by
    unfold partOf
    split <;> simp
    omega
  omega
set_option maxHeartbeats 4000000 in
theorem joined_any (kids : List Pat) (hS : ∀ k ∈ kids, RShowAt k) (z0 : ByteArray) (sep : List UInt8) (hz0 : z0.data.toList = sep) (at1 : Int) (a : Option Addr) (c : Nat) (w : World) (hk : Kids w kids (.slice a kids.length c))
    (hlen : (rowO sep (5 - at1) (Pat.shws kids)).length ≤ 99999999) (hkn : kids.length < 99999) (hzl : z0.size ≤ 9999) :
    Calls Tryz.prog 23 #[.slice a kids.length c, .string z0, .int .i64 at1] w fun e w' => (∃ z : ByteArray, e = .returned (.string z) ∧ z.data.toList = rowO sep (5 - at1) (Pat.shws kids)) ∧ Below w.heap.size w w' := by
  have hsl : (Pat.shws kids).length = kids.length := by rw [shws_map, List.length_map]
  go_enter Tryz.func23, Tryz.ntmps23
  go_wp2_with fail
  go_loopw [7, 8] (fun o i wr => ∃ (k : Nat) (z : ByteArray), k ≤ kids.length ∧ i = .int .i64 k ∧ o = .string z ∧ Hid (z.data.toList = rowO sep (5 - at1) ((Pat.shws kids).take k)) ∧ Below w.heap.size w wr) (fun _ i _ => kids.length - (intOf i).toNat)
  case atStart => exact ⟨0, ⟨#[]⟩, by omega, rfl, rfl, rfl, Below.refl _ _⟩
  case round =>
    obtain ⟨k, z, hkl, rfl, rfl, HZ, hbw⟩ := hrel
    have hzs : z.size ≤ 99999999 := by
      rw [← str_len, HZ.out]
      have := rowO_le sep (5 - at1) (Pat.shws kids) k
      omega
    by_cases hlt : k < kids.length
    · obtain ⟨b', o', rfl, hnode⟩ := kidAt hk k hlt
      obtain ⟨ks2, hk2, k0, k1, k2, k3, k4, k5, k6, k7⟩ := hnode.load
      obtain ⟨a2, c2, rfl⟩ := hk2.len
      have k0 := cell_below hbw k0; have k1 := cell_below hbw k1; have k2 := cell_below hbw k2; have k3 := cell_below hbw k3; have k4 := cell_below hbw k4; have k5 := cell_below hbw k5; have k6 := cell_below hbw k6; have k7 := cell_below hbw k7
      have hq := hS kids[k] (List.getElem_mem hlt)
      have hsk : (Pat.shws kids)[k]'(by omega) = kids[k].shw := by simp only [shws_map, List.getElem_map]
      have hT := rowO_take sep (5 - at1) (Pat.shws kids) k (by omega)
      obtain ⟨hw1, hw2⟩ := shw_le_row sep (5 - at1) (Pat.shws kids) k (by omega)
      rw [hsk] at hT hw1 hw2
      have hk3 := hk2.below hbw
      generalize kids[k] = q at *
      have HT := Lib.hid hT
      have hq1 : q.shw.2.length ≤ 99999999 := by omega
      have hzp : ∀ z : ByteArray, z.data.toList = partOf (5 - at1) q.shw → z.size ≤ 99999999 := fun z hz => by rw [← str_len, hz]; omega
      clear hT hsk hnode hw1 hw2 hk2
      by_cases h0 : 0 < k
      · have hT := HT.out
        rw [if_neg (by omega)] at hT
        have HT2 := Lib.hid hT
        clear hT
        go_wp2_with (first
          | (go_at_call 24; (with_reducible refine (kid_any q hq at1 _ _ _ hk3 hq1).mono ?_); rintro e w2 ⟨⟨z1, rfl, hz1⟩, hb2⟩; have hz1s := hzp z1 hz1))
        go_roundw
        case rel =>
          refine ⟨k + 1, z ++ z0 ++ z1, by omega, num_succ k, rfl, ?_, hbw.trans (hb2.mono hbw.size)⟩
          show _ = _
          rw [HT2.out, str_cat, str_cat, HZ.out, hz0, hz1]
          simp
        case measure => simp [intOf]; omega
      · have hT := HT.out
        rw [if_pos (by omega)] at hT
        have HT2 := Lib.hid hT
        clear hT
        go_wp2_with (first
          | (go_at_call 24; (with_reducible refine (kid_any q hq at1 _ _ _ hk3 hq1).mono ?_); rintro e w2 ⟨⟨z1, rfl, hz1⟩, hb2⟩; have hz1s := hzp z1 hz1))
        go_roundw
        case rel =>
          refine ⟨k + 1, z ++ z1, by omega, num_succ k, rfl, ?_, hbw.trans (hb2.mono hbw.size)⟩
          show _ = _
          rw [HT2.out, str_cat, HZ.out, hz1]
          simp
        case measure => simp [intOf]; omega
    · obtain rfl : k = kids.length := by omega
      have hz := HZ.out
      rw [← hsl, List.take_length] at hz
      go_wp2
      go_ret
      exact ⟨⟨z, rfl, hz⟩, hbw⟩
end Go.Proofs.YtkpfpegjapddfaaGreatDoor
