/- Contracts: the reference's Sum, Four. -/
import Derived.Test.YtmhjabodhgacnaaPT
set_option maxRecDepth 100000
namespace Go.Proofs.Ytmhjabodhgacnaa
open Go.RowKit

set_option maxHeartbeats 4000000 in
theorem rsum_any (s : ByteArray) (l : List Nat) (hs : bytesOf s = l) (hl : s.size < 9223372036854775808) (w : World) :
    Calls Try.prog 16 #[.string s] w fun e w' => e = .returned (.int .u32 (sumB l : Nat)) ∧ w' = w := by
  have hsz : l.length = s.size := by rw [← hs, bytesOf_len]
  have HLB : Hid (∀ x ∈ l, x < 256) := Lib.hid (by rw [← hs]; exact bytesOf_lt s)
  have HGET : Hid (∀ k (h : k < s.size) (h' : k < l.length), l[k] = s[k].toNat) := Lib.hid (by subst hs; exact fun k h h' => bytesOf_get s k h h')
  have HSZ := Lib.hid hsz
  clear hs hsz
  go_enter Try.func16, Try.ntmps16
  go_wp2_with fail
  go_loopw [3, 4] (fun z i wr => ∃ k : Nat, i = .int .i64 k ∧ k ≤ s.size ∧ z = .int .u64 (sumB (l.take k) : Nat) ∧ wr = w) (fun _ i _ => s.size - (intOf i).toNat)
  case atStart => exact ⟨0, rfl, Nat.zero_le _, rfl, rfl⟩
  case round =>
    obtain ⟨k, rfl, hk, rfl, rfl⟩ := hrel
    by_cases hlt : k < s.size
    · have hd : decide ((k : Int) < s.size) = true := decide_eq_true (by omega)
      have hki : (k : Int) < s.size := by omega
      have hkl : k < l.length := by rw [HSZ.out]; exact hlt
      have hx256 := HLB.out l[k] (List.getElem_mem hkl)
      have HSN := Lib.hid (show sumB (l.take (k + 1)) = stepS (sumB (l.take k)) l[k] from by rw [List.take_succ_eq_append_getElem hkl, sumB_snoc])
      have hgx := HGET.out k hlt hkl
      have hn := sumB_lt (l.take k)
      obtain ⟨n, hne⟩ : ∃ n, sumB (l.take k) = n := ⟨_, rfl⟩
      rw [hne] at HSN hn ⊢
      obtain ⟨x, hx⟩ : ∃ x, s[k].toNat = x := ⟨_, rfl⟩
      rw [hgx, hx] at HSN hx256
      have hxl : (n % 256 ^^^ x) < 256 := Nat.xor_lt_two_pow (n := 8) (by omega) hx256
      have e0 : bits .xor .u64 ((n : Int) % 256) (x : Int) = ((n % 256 ^^^ x : Nat) : Int) := by
        have := u64_xor_nat (n % 256) x (by omega) (by omega)
        rw [← this]; rfl
      have HR := Lib.hid (stepS_ref (n := n) hx256)
      obtain ⟨y, hy⟩ : ∃ y, (n % 256 ^^^ x) = y := ⟨_, rfl⟩
      rw [hy] at hxl e0 HR
      have e1 : IntKind.u64.wrap ((n : Int) - (n : Int) % 256) = (n : Int) - (n : Int) % 256 := by rw [IntKind.wrap_u64]; omega
      have e2 : IntKind.u64.wrap ((n : Int) - (n : Int) % 256 + y) = (n : Int) - (n : Int) % 256 + y := by rw [IntKind.wrap_u64]; omega
      have e3 : IntKind.u64.wrap (((n : Int) - (n : Int) % 256 + y) * 16777619) = ((n : Int) - (n : Int) % 256 + y) * 16777619 := by rw [IntKind.wrap_u64]; omega
      have HC : Hid (((n : Int) - (n : Int) % 256 + y) * 16777619 % 4294967296 = ((stepS n x : Nat) : Int)) := Lib.hid (by rw [← HR.out]; omega)
      clear hne hy hgx
      go_wp2_with fail
      exact ⟨⟨k + 1, rfl, hlt, by rw [HSN.out, HC.out], trivial⟩, by simp only [intOf]; omega⟩
    · have hkk : k = s.size := by omega
      have hd : decide ((k : Int) < s.size) = false := decide_eq_false (by omega)
      have hdn : decide (k < s.size) = false := decide_eq_false hlt
      have HT := Lib.hid (show l.take k = l from by rw [hkk, ← HSZ.out, List.take_length])
      have hn := sumB_lt (l.take k)
      rw [HT.out] at hn ⊢
      clear hkk
      go_wp2_with fail
      go_ret
      exact ⟨rfl, rfl⟩
theorem four_at {w : World} {b n : Nat} (hn : n < 4294967296) (h : w.heap[b]? = some (.cells #[.int .u8 ((n : Int) % 256), .int .u8 ((n : Int) / 256 % 256), .int .u8 ((n : Int) / 65536 % 256), .int .u8 ((n : Int) / 16777216)] 5 (0, 0))) : BytesAt w (.slice (some ⟨b, 0, none⟩) 4 4) (fourB n) := by
  refine ⟨_, 4, rfl, Nat.le_refl _, fun i hi => ⟨b, 0, rfl, ?_⟩⟩
  have hi4 : i < 4 := hi
  match i, hi4 with
  | 0, _ => exact (cell_of_row _ _ 0 _ _ _ h).trans rfl
  | 1, _ => exact (cell_of_row _ _ 1 _ _ _ h).trans rfl
  | 2, _ => exact (cell_of_row _ _ 2 _ _ _ h).trans rfl
  | 3, _ =>
    refine (cell_of_row _ _ 3 _ _ _ h).trans ?_
    show some (Value.int .u8 ((n : Int) / 16777216)) = some (Value.int .u8 ((n / 16777216 % 256 : Nat) : Int))
    rw [show ((n / 16777216 % 256 : Nat) : Int) = (n : Int) / 16777216 from by omega]
set_option maxHeartbeats 4000000 in
theorem rfour_any (n : Nat) (hn : n < 4294967296) (w : World) :
    Calls Try.prog 17 #[.int .u32 n] w fun e w' => e = .returned (.string (strOf (fourB n))) ∧ Below w.heap.size w w' := by
  have hcv := conv_bytes (four_at (w := w.alloc (.cells #[.int .u8 ((n : Int) % 256), .int .u8 ((n : Int) / 256 % 256), .int .u8 ((n : Int) / 65536 % 256), .int .u8 ((n : Int) / 16777216)] 5)) hn (heap_alloc_new w _))
  go_enter Try.func17, Try.ntmps17
  go_wp2_with fail
  go_ret
  exact ⟨rfl, new_one w _⟩
end Go.Proofs.Ytmhjabodhgacnaa
