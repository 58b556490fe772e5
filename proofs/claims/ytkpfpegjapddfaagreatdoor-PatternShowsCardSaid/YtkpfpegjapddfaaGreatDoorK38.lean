/- Texts that a proof rests on: Contracts of the reference's in, special, plain, hex, escaped, within. | Contracts of the reference's hex, escaped, within. -/
import Derived.Test.YtkpfpegjapddfaaGreatDoorK25
import Derived.Laws.BytesString
set_option maxRecDepth 20000
namespace Go.Proofs.YtkpfpegjapddfaaGreatDoor
open Go.RowKit

/-- Is a byte one of these? -/
def inB (c : Nat) (l : List UInt8) : Bool := l.any (fun b => b.toNat == c)
theorem inB_take (c : Nat) (z : ByteArray) (k : Nat) (h : k < z.size) : inB c (z.data.toList.take (k + 1)) = (inB c (z.data.toList.take k) || (z[k].toNat == c)) := by
  unfold inB
  rw [take_snoc z k h, List.any_append]
  simp
set_option maxHeartbeats 1000000 in
theorem in_any (c : Nat) (z : ByteArray) (hz : z.size ≤ 9999) (w : World) :
    Calls Tryz.prog 61 #[.int .u8 c, .string z] w fun e w' => e = .returned (.bool (inB c z.data.toList)) ∧ w' = w := by
  go_enter Tryz.func61, Tryz.ntmps61
  go_wp2
  go_loopw [5] (fun i wr => ∃ k : Nat, k ≤ z.size ∧ i = .int .i64 k ∧ Hid (inB c (z.data.toList.take k) = false) ∧ wr = w) (fun i _ => z.size - (intOf i).toNat)
  case atStart => exact ⟨0, by omega, rfl, by simp [inB, Hid], rfl⟩
  case round =>
    obtain ⟨k, hk, rfl, HF, rfl⟩ := hrel
    by_cases hlt : k < z.size
    · have HT := Lib.hid (inB_take c z k hlt)
      cases hb : (z[k].toNat == c)
      · have hb2 : ((z[k].toNat : Int) == (c : Int)) = false := by rw [beq_eq_false_iff_ne] at hb ⊢; omega
        have HB := Lib.hid hb
        clear hb
        go_wp2
        go_roundw
        case rel => exact ⟨k + 1, by omega, num_succ k, by rw [HT.out, HF.out, HB.out]; rfl, trivial⟩
        case measure => simp [intOf]; omega
      · have hb2 : ((z[k].toNat : Int) == (c : Int)) = true := by rw [beq_iff_eq] at hb ⊢; omega
        have hin : inB c z.data.toList = true := by
          have h1 := HT.out
          rw [hb, Bool.or_true] at h1
          unfold inB at h1 ⊢
          rw [List.any_eq_true] at h1 ⊢
          obtain ⟨x, hx, hx2⟩ := h1
          exact ⟨x, List.mem_of_mem_take hx, hx2⟩
        clear hb
        go_wp2
        go_ret
        exact ⟨by rw [hin]; rfl, rfl⟩
    · have hin : inB c z.data.toList = false := by
        have h1 := HF.out
        rwa [List.take_of_length_le (by rw [str_len]; omega)] at h1
      go_wp2
      go_ret
      exact ⟨by rw [hin]; rfl, rfl⟩
theorem in_lit (c : Nat) (z : ByteArray) (l : List UInt8) (hl : z.data.toList = l) (hz : z.size ≤ 9999) (v : Bool) (hv : inB c l = v) (w : World) :
    Calls Tryz.prog 61 #[.int .u8 c, .string z] w fun e w' => e = .returned (.bool v) ∧ w' = w := by
  subst hl hv
  exact in_any c z hz w
theorem special_any (w : World) : Calls Tryz.prog 62 #[] w fun e w' => e = .returned (.string ⟨#[40, 41, 91, 93, 123, 125, 124, 38, 42, 43, 63, 46, 126, 92, 47]⟩) ∧ w' = w := by
  go_enter Tryz.func62, Tryz.ntmps62
  go_wp2
  go_ret
  exact ⟨rfl, rfl⟩
theorem plain_in (c : Nat) (hc : c < 256) : plainB c = (decide (32 ≤ c) && decide (c ≤ 126) && !inB c metaL) := by
  have h : ∀ c, c < 256 → plainB c = (decide (32 ≤ c) && decide (c ≤ 126) && !inB c metaL) := by decide +kernel
  exact h c hc
theorem shown_in (c : Nat) (hc : c < 256) : shownC c = (decide (32 ≤ c) && decide (c ≤ 126) && !inB c [93, 92, 94, 45, 47]) := by
  have h : ∀ c, c < 256 → shownC c = (decide (32 ≤ c) && decide (c ≤ 126) && !inB c [93, 92, 94, 45, 47]) := by decide +kernel
  exact h c hc
set_option maxHeartbeats 1000000 in
theorem rplain_any (c : Nat) (hc : c < 256) (w : World) :
    Calls Tryz.prog 35 #[.int .u8 c] w fun e w' => e = .returned (.bool (plainB c)) ∧ w' = w := by
  rw [plain_in c hc]
  by_cases h1 : 32 ≤ c
  · by_cases h2 : c ≤ 126
    · obtain ⟨v, hv⟩ : ∃ v, inB c metaL = v := ⟨_, rfl⟩
      rw [hv, decide_eq_true h1, decide_eq_true h2]
      go_enter Tryz.func35, Tryz.ntmps35
      go_wp2_with (first
        | (go_at_call 62; refine (special_any _).mono ?_; rintro e w1 ⟨rfl, rfl⟩)
        | (go_at_call 61; refine (in_lit c _ metaL rfl (by decide) v hv _).mono ?_; rintro e w1 ⟨rfl, rfl⟩))
      go_ret
      exact ⟨by cases v <;> rfl, rfl⟩
    · rw [decide_eq_true h1, decide_eq_false h2]
      go_enter Tryz.func35, Tryz.ntmps35
      go_wp2
      go_ret
      exact ⟨rfl, rfl⟩
  · rw [decide_eq_false h1]
    go_enter Tryz.func35, Tryz.ntmps35
    go_wp2
    go_ret
    exact ⟨rfl, rfl⟩
end Go.Proofs.YtkpfpegjapddfaaGreatDoor
set_option maxRecDepth 20000
namespace Go.Proofs.YtkpfpegjapddfaaGreatDoor
open Go.RowKit

theorem conv_one (c : Int) (n : Nat) (W : World) (h : W.cell? ⟨n, 0, none⟩ = some (.int .u8 c)) : (convert 48 9 (.slice (some ⟨n, 0, none⟩) 1 1)).run Tryz.prog W = .ok (.string ⟨#[UInt8.ofNat c.toNat]⟩) W := by
  rw [run_convert_bytes_string W _ _ _ _ 1 1 Tryz.underlying48 Tryz.underlying5 Tryz.underlying9]
  refine (run_bytesToString W ⟨n, 0, none⟩ 1 1 [c] ?_).trans rfl
  simp [loadCells, h, go_sem, Addr.add]
/-- The reference's escape. -/
def rescOut (b : UInt8) : List UInt8 := if b = 10 then [92, 110] else if b = 9 then [92, 116] else if b = 13 then [92, 114] else if 33 ≤ b.toNat ∧ b.toNat ≤ 126 then [92, b] else [92, 120, hexL.getD (b.toNat / 16) 0, hexL.getD (b.toNat % 16) 0]
theorem resc_plain (c : UInt8) (h : plainB c.toNat = false) : rescOut c = escOut c := by
  have hk : ∀ n : Fin 256, plainB n.val = false → (UInt8.ofNat n.val = 10 ∨ UInt8.ofNat n.val = 9 ∨ UInt8.ofNat n.val = 13 ∨ decide (33 ≤ n.val ∧ n.val ≤ 126) = escB n.val) := by decide +kernel
  have hc := c.toNat_lt
  have := hk ⟨c.toNat, hc⟩ h
  simp only [UInt8.ofNat_toNat] at this
  unfold rescOut escOut
  rcases this with rfl | rfl | rfl | hd
  · rfl
  · rfl
  · rfl
  · by_cases he : escB c.toNat = true
    · rw [he] at hd
      rw [if_pos (of_decide_eq_true hd), if_pos he]
    · have he2 : escB c.toNat = false := by simpa using he
      rw [he2] at hd
      rw [if_neg (of_decide_eq_false hd), if_neg he]
theorem resc_shown (c : UInt8) (h : shownC c.toNat = false) : rescOut c = escOut c := by
  have hk : ∀ n : Fin 256, shownC n.val = false → (UInt8.ofNat n.val = 10 ∨ UInt8.ofNat n.val = 9 ∨ UInt8.ofNat n.val = 13 ∨ decide (33 ≤ n.val ∧ n.val ≤ 126) = escB n.val) := by decide +kernel
  have hc := c.toNat_lt
  have := hk ⟨c.toNat, hc⟩ h
  simp only [UInt8.ofNat_toNat] at this
  unfold rescOut escOut
  rcases this with rfl | rfl | rfl | hd
  · rfl
  · rfl
  · rfl
  · by_cases he : escB c.toNat = true
    · rw [he] at hd
      rw [if_pos (of_decide_eq_true hd), if_pos he]
    · have he2 : escB c.toNat = false := by simpa using he
      rw [he2] at hd
      rw [if_neg (of_decide_eq_false hd), if_neg he]
theorem str_cat (a b : ByteArray) : (a ++ b).data.toList = a.data.toList ++ b.data.toList := by
  rw [ByteArray.data_append, Array.toList_append]
theorem hex_cut (n : Nat) (h : n < 16) : ((⟨#[48, 49, 50, 51, 52, 53, 54, 55, 56, 57, 97, 98, 99, 100, 101, 102]⟩ : ByteArray).extract n (n + 1)).data.toList = [hexL.getD n 0] := by
  have hk : ∀ n : Fin 16, ((⟨#[48, 49, 50, 51, 52, 53, 54, 55, 56, 57, 97, 98, 99, 100, 101, 102]⟩ : ByteArray).extract n.val (n.val + 1)).data.toList = [hexL.getD n.val 0] := by decide +kernel
  exact hk ⟨n, h⟩
set_option maxHeartbeats 1000000 in
theorem hex_any (c : UInt8) (w : World) :
    Calls Tryz.prog 63 #[.int .u8 (c.toNat : Int)] w fun e w' => (∃ z : ByteArray, e = .returned (.string z) ∧ z.data.toList = [hexL.getD (c.toNat / 16) 0, hexL.getD (c.toNat % 16) 0]) ∧ Below w.heap.size w w' := by
  have hc := c.toNat_lt
  go_enter Tryz.func63, Tryz.ntmps63
  have d1 : ((c.toNat : Int).tdiv 16) = ((c.toNat / 16 : Nat) : Int) := by rw [Int.tdiv_eq_ediv_of_nonneg (by omega)]; omega
  have d2 : ((c.toNat : Int).tmod 16) = ((c.toNat % 16 : Nat) : Int) := by rw [Int.tmod_eq_emod_of_nonneg (by omega)]; omega
  have m1 : c.toNat / 16 < 16 := by omega
  have m2 : c.toNat % 16 < 16 := by omega
  go_wp2
  go_region
  all_goals
    go_wp2
    go_ret
    exact ⟨⟨_, rfl, by rw [str_cat, hex_cut _ m1, hex_cut _ m2]; rfl⟩, (Below.refl _ _).drew⟩
set_option maxHeartbeats 1000000 in
theorem escaped_any (c : UInt8) (w : World) :
    Calls Tryz.prog 36 #[.int .u8 (c.toNat : Int)] w fun e w' => (∃ z : ByteArray, e = .returned (.string z) ∧ z.data.toList = rescOut c) ∧ Below w.heap.size w w' := by
  have hc := c.toNat_lt
  have u8 : ∀ n : UInt8, (c.toNat : Int) = (n.toNat : Int) ↔ c = n := fun n => ⟨fun h => UInt8.toNat_inj.1 (by omega), fun h => by rw [h]⟩
  have n8 : UInt8.ofNat ((c.toNat : Int)).toNat = c := by simp
  unfold rescOut
  by_cases h1 : c = 10
  · subst h1
    go_enter Tryz.func36, Tryz.ntmps36
    go_wp2
    go_ret
    exact ⟨⟨_, rfl, rfl⟩, Below.refl _ _⟩
  have q1 : ((c.toNat : Int) == 10) = false := by rw [beq_eq_false_iff_ne]; exact fun h => h1 ((u8 10).1 h)
  rw [if_neg h1]
  by_cases h2 : c = 9
  · subst h2
    go_enter Tryz.func36, Tryz.ntmps36
    go_wp2
    go_ret
    exact ⟨⟨_, rfl, rfl⟩, Below.refl _ _⟩
  have q2 : ((c.toNat : Int) == 9) = false := by rw [beq_eq_false_iff_ne]; exact fun h => h2 ((u8 9).1 h)
  rw [if_neg h2]
  by_cases h3 : c = 13
  · subst h3
    go_enter Tryz.func36, Tryz.ntmps36
    go_wp2
    go_ret
    exact ⟨⟨_, rfl, rfl⟩, Below.refl _ _⟩
  have q3 : ((c.toNat : Int) == 13) = false := by rw [beq_eq_false_iff_ne]; exact fun h => h3 ((u8 13).1 h)
  rw [if_neg h3]
  clear h1 h2 h3 u8
  by_cases h4 : 33 ≤ c.toNat ∧ c.toNat ≤ 126
  · rw [if_pos h4]
    obtain ⟨h4, h5⟩ := h4
    have hn := heap_alloc_new w (.cells #[.int .u8 (c.toNat : Int)] 5)
    have hcv := conv_one (c.toNat : Int) w.heap.size (w.alloc (.cells #[.int .u8 (c.toNat : Int)] 5)) (by rw [Lib.cell_of_heap hn]; rfl)
    rw [n8] at hcv
    go_enter Tryz.func36, Tryz.ntmps36
    go_wp2
    go_ret
    exact ⟨⟨_, rfl, by rw [str_cat]; rfl⟩, below_one _ _⟩
  · rw [if_neg h4]
    by_cases h5 : 33 ≤ c.toNat
    · have h6 : ¬ c.toNat ≤ 126 := fun h => h4 ⟨h5, h⟩
      clear h4
      go_enter Tryz.func36, Tryz.ntmps36
      go_wp2_with (go_at_call 63; refine (hex_any c _).mono ?_; rintro e w1 ⟨⟨z, rfl, hz⟩, hb⟩; have hzs : z.size = 2 := by rw [← str_len, hz]; rfl)
      go_ret
      exact ⟨⟨_, rfl, by rw [str_cat, hz]; rfl⟩, hb⟩
    · clear h4
      go_enter Tryz.func36, Tryz.ntmps36
      go_wp2_with (go_at_call 63; refine (hex_any c _).mono ?_; rintro e w1 ⟨⟨z, rfl, hz⟩, hb⟩; have hzs : z.size = 2 := by rw [← str_len, hz]; rfl)
      go_ret
      exact ⟨⟨_, rfl, by rw [str_cat, hz]; rfl⟩, hb⟩
set_option maxHeartbeats 1000000 in
theorem within_any (c : UInt8) (w : World) :
    Calls Tryz.prog 65 #[.int .u8 (c.toNat : Int)] w fun e w' => (∃ z : ByteArray, e = .returned (.string z) ∧ z.data.toList = byteOut (shownC c.toNat) c) ∧ Below w.heap.size w w' := by
  have hc := c.toNat_lt
  have n8 : UInt8.ofNat ((c.toNat : Int)).toNat = c := by simp
  have hs := shown_in c.toNat (by omega)
  unfold byteOut
  cases hv : shownC c.toNat
  · rw [if_neg (by decide), ← resc_shown c hv]
    rw [hv] at hs
    by_cases h1 : 32 ≤ c.toNat
    · by_cases h2 : c.toNat ≤ 126
      · rw [decide_eq_true h1, decide_eq_true h2] at hs
        have hin : inB c.toNat [93, 92, 94, 45, 47] = true := by simpa using hs
        clear hs hv
        go_enter Tryz.func65, Tryz.ntmps65
        go_wp2_with (first
          | (go_at_call 61; refine (in_lit c.toNat _ [93, 92, 94, 45, 47] rfl (by decide) true hin _).mono ?_; rintro e w1 ⟨rfl, rfl⟩)
          | (go_at_call 36; refine (escaped_any c _).mono ?_; rintro e w2 ⟨⟨z, rfl, hz⟩, hb⟩))
        go_ret
        exact ⟨⟨_, rfl, hz⟩, hb⟩
      · clear hs hv
        go_enter Tryz.func65, Tryz.ntmps65
        go_wp2_with (first
          | (go_at_call 36; refine (escaped_any c _).mono ?_; rintro e w2 ⟨⟨z, rfl, hz⟩, hb⟩))
        go_ret
        exact ⟨⟨_, rfl, hz⟩, hb⟩
    · clear hs hv
      go_enter Tryz.func65, Tryz.ntmps65
      go_wp2_with (first
        | (go_at_call 36; refine (escaped_any c _).mono ?_; rintro e w2 ⟨⟨z, rfl, hz⟩, hb⟩))
      go_ret
      exact ⟨⟨_, rfl, hz⟩, hb⟩
  · rw [if_pos rfl]
    rw [hv] at hs
    have hs2 : (decide (32 ≤ c.toNat) && decide (c.toNat ≤ 126) && !inB c.toNat [93, 92, 94, 45, 47]) = true := hs.symm
    simp only [Bool.and_eq_true, decide_eq_true_eq, Bool.not_eq_true'] at hs2
    obtain ⟨⟨h1, h2⟩, hin⟩ := hs2
    have hn := heap_alloc_new w (.cells #[.int .u8 (c.toNat : Int)] 5)
    have hcv := conv_one (c.toNat : Int) w.heap.size (w.alloc (.cells #[.int .u8 (c.toNat : Int)] 5)) (by rw [Lib.cell_of_heap hn]; rfl)
    rw [n8] at hcv
    clear hs hv
    go_enter Tryz.func65, Tryz.ntmps65
    go_wp2_with (first
      | (go_at_call 61; refine (in_lit c.toNat _ [93, 92, 94, 45, 47] rfl (by decide) false hin _).mono ?_; rintro e w1 ⟨rfl, rfl⟩))
    go_ret
    exact ⟨⟨_, rfl, rfl⟩, below_one _ _⟩
end Go.Proofs.YtkpfpegjapddfaaGreatDoor
