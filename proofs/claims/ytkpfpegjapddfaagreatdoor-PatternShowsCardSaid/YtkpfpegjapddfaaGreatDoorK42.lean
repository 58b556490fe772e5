/- Texts that a proof rests on: Contract of the reference's Show. -/
import Derived.Test.YtkpfpegjapddfaaGreatDoorK41
set_option maxRecDepth 20000
namespace Go.Proofs.YtkpfpegjapddfaaGreatDoor
open Go.RowKit

theorem joined_lit (kids : List Pat) (hS : ∀ k ∈ kids, RShowAt k) (z0 : ByteArray) (sep : List UInt8) (hz0 : z0.data.toList = sep) (at1 least : Int) (hl : 5 - at1 = least) (T : List UInt8) (hT : rowO sep least (Pat.shws kids) = T) (a : Option Addr) (c : Nat) (w : World) (hk : Kids w kids (.slice a kids.length c))
    (hlen : T.length ≤ 99999999) (hkn : kids.length < 99999) (hzl : z0.size ≤ 9999) :
    Calls Tryz.prog 23 #[.slice a kids.length c, .string z0, .int .i64 at1] w fun e w' => (∃ z : ByteArray, e = .returned (.string z) ∧ z.data.toList = T) ∧ Below w.heap.size w w' := by
  subst hT hl
  exact joined_any kids hS z0 sep hz0 at1 a c w hk hlen hkn hzl
theorem kid_lit (p : Pat) (hp : RShowAt p) (at1 least : Int) (hl : 5 - at1 = least) (T : List UInt8) (hT : rowO [] least [p.shw] = T) (a : Option Addr) (c : Nat) (w : World) (hk : Kids w p.kids (.slice a p.kids.length c)) (hlen : T.length ≤ 99999999) :
    Calls Tryz.prog 24 #[(.agg #[.int .i64 p.op, .int .u64 (wd p.set 0), .int .u64 (wd p.set 1), .int .u64 (wd p.set 2), .int .u64 (wd p.set 3), .int .i64 p.lo, .int .i64 p.hi, .slice a p.kids.length c]), .int .i64 at1] w fun e w' => (∃ z : ByteArray, e = .returned (.string z) ∧ z.data.toList = T ∧ z.size ≤ 99999999) ∧ Below w.heap.size w w' := by
  subst hT hl
  have h2 : rowO [] (5 - at1) [p.shw] = partOf (5 - at1) p.shw := by simp [rowO]
  have h3 : p.shw.2.length ≤ (partOf (5 - at1) p.shw).length := by
    unfold partOf
    split <;> simp
    omega
  rw [h2] at hlen ⊢
  refine (kid_any p hp at1 a c w hk (by omega)).mono ?_
  rintro e w' ⟨⟨z, rfl, hz⟩, hb⟩
  exact ⟨⟨z, rfl, hz, by rw [← str_len, hz]; exact hlen⟩, hb⟩
theorem ending_lit (lo hi : Int) (h0 : 0 ≤ lo) (h1 : lo < 100) (h2 : hi < 100) (w : World) :
    Calls Tryz.prog 25 #[.int .i64 lo, .int .i64 hi] w fun e w' => (∃ z : ByteArray, e = .returned (.string z) ∧ z.data.toList = repOut lo hi ∧ z.size ≤ 7) ∧ Below w.heap.size w w' := by
  refine (ending_any lo hi h0 h1 h2 w).mono ?_
  rintro e w' ⟨⟨z, rfl, hz⟩, hb⟩
  exact ⟨⟨z, rfl, hz, by rw [← str_len, hz]; exact repOut_len lo hi h1 h2⟩, hb⟩
theorem rshow_self {p : Pat} (hl : ¬(isL p.op = true ∧ p.kids.length = 1)) : p.shw.2 = textOf p.op p.set p.lo p.hi (Pat.shws p.kids) := by rw [shw_self hl]
set_option maxHeartbeats 4000000 in
/-- A list of one kid. -/
theorem rshow_one (p k : Pat) (hi : isL p.op = true) (hk1 : p.kids = [k]) (hS : RShowAt k) : RShowAt p := by
  intro a c w hk
  have hal := below_one w (.cells #[.int .i64 p.op, .int .u64 (wd p.set 0), .int .u64 (wd p.set 1), .int .u64 (wd p.set 2), .int .u64 (wd p.set 3), .int .i64 p.lo, .int .i64 p.hi, .slice a p.kids.length c] 28)
  have hln : p.kids.length = 1 := by rw [hk1]; rfl
  obtain ⟨b', o', ea, hnode⟩ := kidAt hk 0 (by omega)
  replace hnode : NodeAt w k b' o' := by simpa [hk1] using hnode
  subst ea
  obtain ⟨ks2, hk2, k0, k1, k2, k3, k4, k5, k6, k7⟩ := hnode.load
  obtain ⟨a2, c2, rfl⟩ := hk2.len
  have ih := hS a2 c2 (w.alloc (.cells #[.int .i64 p.op, .int .u64 (wd p.set 0), .int .u64 (wd p.set 1), .int .u64 (wd p.set 2), .int .u64 (wd p.set 3), .int .i64 p.lo, .int .i64 p.hi, .slice (some ⟨b', o', none⟩) p.kids.length c] 28)) (hk2.below hal)
  rw [← shw_one hi hk1] at ih
  have k0 := cell_below hal k0; have k1 := cell_below hal k1; have k2 := cell_below hal k2; have k3 := cell_below hal k3; have k4 := cell_below hal k4; have k5 := cell_below hal k5; have k6 := cell_below hal k6; have k7 := cell_below hal k7
  have hb : ((p.kids.length : Int) == 1) = true := by rw [hln]; rfl
  have hpos : 0 < p.kids.length := by omega
  unfold isL at hi
  clear hnode hk2 hk hk1 hln hS
  cases q1 : (p.op == 1) <;> cases q2 : (p.op == 2) <;> cases q4 : (p.op == 4)
  · rw [q1, q2, q4] at hi; exact absurd hi (by decide)
  all_goals
    clear hi
    go_enter Tryz.func11, Tryz.ntmps11
    go_wp2_with (go_at_call 11; refine ih.mono ?_; rintro e w2 ⟨⟨z, rfl, hz⟩, hb2⟩)
    go_ret
    exact ⟨⟨z, rfl, hz⟩, below_step hal hb2⟩
set_option maxHeartbeats 4000000 in
theorem rshow_many (p : Pat) (hl : ¬(isL p.op = true ∧ p.kids.length = 1)) (hS : ∀ k ∈ p.kids, RShowAt k) (hok : p.op = 3 ∨ p.op = 5 → p.kids.length = 1) (hsm : p.op = 3 → 0 ≤ p.lo ∧ p.lo < 100 ∧ p.hi < 100) (hlen : p.shw.2.length ≤ 99999999) (hkn : p.kids.length < 99999) : RShowAt p := by
  intro a c w hk
  have hal := below_one w (.cells #[.int .i64 p.op, .int .u64 (wd p.set 0), .int .u64 (wd p.set 1), .int .u64 (wd p.set 2), .int .u64 (wd p.set 3), .int .i64 p.lo, .int .i64 p.hi, .slice a p.kids.length c] 28)
  have hk0 := hk.below hal
  have hne : isL p.op = true → ((p.kids.length : Int) == 1) = false := fun h1 => by
    rw [beq_eq_false_iff_ne]
    intro h2
    exact hl ⟨h1, by omega⟩
  have hbl : ∀ j : Int, p.op ≠ j → (p.op == j) = false := fun j h => by rw [beq_eq_false_iff_ne]; exact h
  have hbt : ∀ j : Int, p.op = j → (p.op == j) = true := fun j h => by rw [h]; simp
  have hsl : (Pat.shws p.kids).length = p.kids.length := by rw [shws_map, List.length_map]
  rw [rshow_self hl] at hlen ⊢
  by_cases o0 : p.op = 0
  · have q0 := hbt 0 o0
    have q1 := hbl 1 (by omega)
    have q2 := hbl 2 (by omega)
    have q4 := hbl 4 (by omega)
    have q5 := hbl 5 (by omega)
    have q3 := hbl 3 (by omega)
    have htx : textOf p.op p.set p.lo p.hi (Pat.shws p.kids) = classOut p.set := by unfold textOf; rw [if_pos o0]
    rw [htx] at hlen ⊢
    clear htx hsm
    clear hne hbl hbt hl hok hsl o0
    go_enter Tryz.func11, Tryz.ntmps11
    go_wp2_with (first
      | (go_at_call 13; (with_reducible refine (rclass_any p.set _).mono ?_); rintro e w2 ⟨⟨z, rfl, hz⟩, hb2⟩))
    all_goals
      go_ret
      exact ⟨⟨z, rfl, hz⟩, below_step hal hb2⟩
  by_cases o1 : p.op = 1
  · have q1 := hbt 1 o1
    have q0 := hbl 0 (by omega)
    have q2 := hbl 2 (by omega)
    have q4 := hbl 4 (by omega)
    have q5 := hbl 5 (by omega)
    have q3 := hbl 3 (by omega)
    have hb := hne (by unfold isL; rw [o1]; rfl)
    have htx : textOf p.op p.set p.lo p.hi (Pat.shws p.kids) = rowO [] 3 (Pat.shws p.kids) := by unfold textOf; rw [if_neg o0, if_pos o1]
    rw [htx] at hlen ⊢
    obtain ⟨T, hTT⟩ : ∃ z, rowO [] 3 (Pat.shws p.kids) = z := ⟨_, rfl⟩
    rw [hTT] at hlen ⊢
    have HT := Lib.hid hTT
    clear hTT htx hsm
    clear hne hbl hbt hl hok hsl o0 o1
    go_enter Tryz.func11, Tryz.ntmps11
    go_wp2_with (first
      | (go_at_call 23; (with_reducible refine (joined_lit p.kids hS ⟨#[]⟩ [] rfl 2 3 rfl T HT.out a c _ hk0 hlen hkn (by decide)).mono ?_); rintro e w2 ⟨⟨z, rfl, hz⟩, hb2⟩))
    all_goals
      go_ret
      exact ⟨⟨z, rfl, hz⟩, below_step hal hb2⟩
  by_cases o2 : p.op = 2
  · have q2 := hbt 2 o2
    have q0 := hbl 0 (by omega)
    have q1 := hbl 1 (by omega)
    have q4 := hbl 4 (by omega)
    have q5 := hbl 5 (by omega)
    have q3 := hbl 3 (by omega)
    have hb := hne (by unfold isL; rw [o2]; rfl)
    have htx : textOf p.op p.set p.lo p.hi (Pat.shws p.kids) = (if p.kids.length = 0 then [91, 93] else []) ++ rowO [124] 1 (Pat.shws p.kids) := by unfold textOf; rw [if_neg o0, if_neg o1, if_pos o2, hsl]
    rw [htx] at hlen ⊢
    by_cases z0 : p.kids.length = 0
    · have e0 : Pat.shws p.kids = [] := List.eq_nil_of_length_eq_zero (hsl.trans z0)
      rw [if_pos z0, e0]
      have hz0 : ((p.kids.length : Int) == 0) = true := by rw [z0]; rfl
      clear htx hlen e0 z0 hsm hS hkn
      clear hne hbl hbt hl hok hsl o0 o1 o2
      go_enter Tryz.func11, Tryz.ntmps11
      go_wp2
      all_goals
        go_ret
        exact ⟨⟨_, rfl, rfl⟩, hal⟩
    · rw [if_neg z0, List.nil_append] at hlen ⊢
      have hz0 : ((p.kids.length : Int) == 0) = false := by rw [beq_eq_false_iff_ne]; omega
      obtain ⟨T, hTT⟩ : ∃ z, rowO [124] 1 (Pat.shws p.kids) = z := ⟨_, rfl⟩
      rw [hTT] at hlen ⊢
      have HT := Lib.hid hTT
      clear hTT htx z0 hsm
      clear hne hbl hbt hl hok hsl o0 o1 o2
      go_enter Tryz.func11, Tryz.ntmps11
      go_wp2_with (first
        | (go_at_call 23; (with_reducible refine (joined_lit p.kids hS ⟨#[124]⟩ [124] rfl 4 1 rfl T HT.out a c _ hk0 hlen hkn (by decide)).mono ?_); rintro e w2 ⟨⟨z, rfl, hz⟩, hb2⟩))
      all_goals
        go_ret
        exact ⟨⟨z, rfl, hz⟩, below_step hal hb2⟩
  by_cases o4 : p.op = 4
  · have q4 := hbt 4 o4
    have q0 := hbl 0 (by omega)
    have q1 := hbl 1 (by omega)
    have q2 := hbl 2 (by omega)
    have q5 := hbl 5 (by omega)
    have q3 := hbl 3 (by omega)
    have hb := hne (by unfold isL; rw [o4]; rfl)
    have htx : textOf p.op p.set p.lo p.hi (Pat.shws p.kids) = (if p.kids.length = 0 then [91, 94, 93, 42] else []) ++ rowO [38] 2 (Pat.shws p.kids) := by unfold textOf; rw [if_neg o0, if_neg o1, if_neg o2, if_pos o4, hsl]
    rw [htx] at hlen ⊢
    by_cases z0 : p.kids.length = 0
    · have e0 : Pat.shws p.kids = [] := List.eq_nil_of_length_eq_zero (hsl.trans z0)
      rw [if_pos z0, e0]
      have hz0 : ((p.kids.length : Int) == 0) = true := by rw [z0]; rfl
      clear htx hlen e0 z0 hsm hS hkn
      clear hne hbl hbt hl hok hsl o0 o1 o2 o4
      go_enter Tryz.func11, Tryz.ntmps11
      go_wp2
      all_goals
        go_ret
        exact ⟨⟨_, rfl, rfl⟩, hal⟩
    · rw [if_neg z0, List.nil_append] at hlen ⊢
      have hz0 : ((p.kids.length : Int) == 0) = false := by rw [beq_eq_false_iff_ne]; omega
      obtain ⟨T, hTT⟩ : ∃ z, rowO [38] 2 (Pat.shws p.kids) = z := ⟨_, rfl⟩
      rw [hTT] at hlen ⊢
      have HT := Lib.hid hTT
      clear hTT htx z0 hsm
      clear hne hbl hbt hl hok hsl o0 o1 o2 o4
      go_enter Tryz.func11, Tryz.ntmps11
      go_wp2_with (first
        | (go_at_call 23; (with_reducible refine (joined_lit p.kids hS ⟨#[38]⟩ [38] rfl 3 2 rfl T HT.out a c _ hk0 hlen hkn (by decide)).mono ?_); rintro e w2 ⟨⟨z, rfl, hz⟩, hb2⟩))
      all_goals
        go_ret
        exact ⟨⟨z, rfl, hz⟩, below_step hal hb2⟩
  by_cases o5 : p.op = 5
  · have q5 := hbt 5 o5
    have q0 := hbl 0 (by omega)
    have q1 := hbl 1 (by omega)
    have q2 := hbl 2 (by omega)
    have q4 := hbl 4 (by omega)
    have q3 := hbl 3 (by omega)
    have htx : textOf p.op p.set p.lo p.hi (Pat.shws p.kids) = [126] ++ rowO [] 3 (Pat.shws p.kids) := by unfold textOf; rw [if_neg o0, if_neg o1, if_neg o2, if_neg o4, if_pos o5]
    rw [htx] at hlen ⊢
    have hln := hok (by omega)
    obtain ⟨k, hk1⟩ := List.length_eq_one_iff.1 hln
    obtain ⟨b', o', ea, hnode⟩ := kidAt hk 0 (by omega)
    replace hnode : NodeAt w k b' o' := by simpa [hk1] using hnode
    subst ea
    obtain ⟨ks2, hk2, k0, k1, k2, k3, k4, k5, k6, k7⟩ := hnode.load
    obtain ⟨a2, c2, rfl⟩ := hk2.len
    have k0 := cell_below hal k0; have k1 := cell_below hal k1; have k2 := cell_below hal k2; have k3 := cell_below hal k3; have k4 := cell_below hal k4; have k5 := cell_below hal k5; have k6 := cell_below hal k6; have k7 := cell_below hal k7
    have hkk := hk2.below hal
    have hpos : 0 < p.kids.length := by omega
    have hb1 : ((p.kids.length : Int) == 1) = true := by rw [hln]; rfl
    have hSk := hS k (by rw [hk1]; simp)
    have e1 : Pat.shws p.kids = [k.shw] := by rw [hk1]; rfl
    rw [e1] at hlen ⊢
    obtain ⟨T, hTT⟩ : ∃ z, rowO [] 3 [k.shw] = z := ⟨_, rfl⟩
    rw [hTT] at hlen ⊢
    rw [List.length_append] at hlen
    have HT := Lib.hid hTT
    have hTl : T.length ≤ 99999999 := by omega
    clear hTT htx hln hk1 hnode hk2 e1 hS hsm hlen hk hk0 hkn
    clear hne hbl hbt hl hok hsl o0 o1 o2 o4 o5
    go_enter Tryz.func11, Tryz.ntmps11
    go_wp2_with (first
      | (go_at_call 24; (with_reducible refine (kid_lit k hSk 2 3 rfl T HT.out a2 c2 _ hkk hTl).mono ?_); rintro e w2 ⟨⟨z, rfl, hz, hzs⟩, hb2⟩))
    go_ret
    exact ⟨⟨_, rfl, by rw [str_cat, hz]; rfl⟩, below_step hal hb2⟩
  by_cases o3 : p.op = 3
  · have q3 := hbt 3 o3
    have q0 := hbl 0 (by omega)
    have q1 := hbl 1 (by omega)
    have q2 := hbl 2 (by omega)
    have q4 := hbl 4 (by omega)
    have q5 := hbl 5 (by omega)
    have htx : textOf p.op p.set p.lo p.hi (Pat.shws p.kids) = rowO [] 4 (Pat.shws p.kids) ++ repOut p.lo p.hi := by unfold textOf; rw [if_neg o0, if_neg o1, if_neg o2, if_neg o4, if_neg o5, if_pos o3]
    rw [htx] at hlen ⊢
    have hln := hok (by omega)
    obtain ⟨k, hk1⟩ := List.length_eq_one_iff.1 hln
    obtain ⟨b', o', ea, hnode⟩ := kidAt hk 0 (by omega)
    replace hnode : NodeAt w k b' o' := by simpa [hk1] using hnode
    subst ea
    obtain ⟨ks2, hk2, k0, k1, k2, k3, k4, k5, k6, k7⟩ := hnode.load
    obtain ⟨a2, c2, rfl⟩ := hk2.len
    have k0 := cell_below hal k0; have k1 := cell_below hal k1; have k2 := cell_below hal k2; have k3 := cell_below hal k3; have k4 := cell_below hal k4; have k5 := cell_below hal k5; have k6 := cell_below hal k6; have k7 := cell_below hal k7
    have hkk := hk2.below hal
    have hpos : 0 < p.kids.length := by omega
    have hb1 : ((p.kids.length : Int) == 1) = true := by rw [hln]; rfl
    have hSk := hS k (by rw [hk1]; simp)
    have e1 : Pat.shws p.kids = [k.shw] := by rw [hk1]; rfl
    rw [e1] at hlen ⊢
    obtain ⟨hs1, hs2, hs3⟩ := hsm o3
    obtain ⟨T, hTT⟩ : ∃ z, rowO [] 4 [k.shw] = z := ⟨_, rfl⟩
    rw [hTT] at hlen ⊢
    rw [List.length_append] at hlen
    have HT := Lib.hid hTT
    have hTl : T.length ≤ 99999999 := by omega
    clear hTT htx hln hk1 hnode hk2 e1 hS hsm hlen hk hk0 hkn
    clear hne hbl hbt hl hok hsl o0 o1 o2 o4 o5 o3
    have hx0 := Box.new w #[.int .i64 p.op, .int .u64 (wd p.set 0), .int .u64 (wd p.set 1), .int .u64 (wd p.set 2), .int .u64 (wd p.set 3), .int .i64 p.lo, .int .i64 p.hi, .slice (some ⟨b', o', none⟩) p.kids.length c] rfl
    go_enter Tryz.func11, Tryz.ntmps11
    go_wp2_with fail
    generalize w.alloc (.cells #[.int .i64 p.op, .int .u64 (wd p.set 0), .int .u64 (wd p.set 1), .int .u64 (wd p.set 2), .int .u64 (wd p.set 3), .int .i64 p.lo, .int .i64 p.hi, .slice (some ⟨b', o', none⟩) p.kids.length c] 28) = W at *
    obtain ⟨d0, d1, d2, d3, d4, d5, d6, d7⟩ := hx0.cells
    have hD : Below W.heap.size W W.drew := (Below.refl _ _).drew
    have hkD := hkk.drew
    go_region_with (first
      | (go_at_call 24; (with_reducible refine (kid_lit k hSk 1 4 rfl T HT.out a2 c2 _ hkD hTl).mono ?_); rintro e w2 ⟨⟨z, rfl, hz, hzs⟩, hb2⟩; have hB2 := below_step hD hb2; clear d0 d1 d2 d3 d4 d5 d6 d7; obtain ⟨d0, d1, d2, d3, d4, d5, d6, d7⟩ := (hx0.below hB2).cells)
      | (go_at_call 25; (with_reducible refine (ending_lit p.lo p.hi hs1 hs2 hs3 _).mono ?_); rintro e w3 ⟨⟨y, rfl, hy, hys⟩, hb3⟩))
    all_goals
      go_wp2_with fail
      go_ret
      exact ⟨⟨_, rfl, by rw [str_cat, hz, hy]⟩, below_step (below_step hal hB2) hb3⟩
  have htx : textOf p.op p.set p.lo p.hi (Pat.shws p.kids) = [] := by unfold textOf; rw [if_neg o0, if_neg o1, if_neg o2, if_neg o4, if_neg o5, if_neg o3]
  rw [htx] at hlen ⊢
  have q0 := hbl 0 o0
  have q1 := hbl 1 o1
  have q2 := hbl 2 o2
  have q4 := hbl 4 o4
  have q5 := hbl 5 o5
  have q3 := hbl 3 o3
  clear hne hbl hbt hl hok hsl htx hsm hlen o0 o1 o2 o4 o5 o3
  go_enter Tryz.func11, Tryz.ntmps11
  go_wp2
  all_goals
    go_ret
    exact ⟨⟨_, rfl, rfl⟩, hal⟩
end Go.Proofs.YtkpfpegjapddfaaGreatDoor
