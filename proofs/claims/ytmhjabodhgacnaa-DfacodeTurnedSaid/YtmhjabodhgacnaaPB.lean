/- Contracts: Sum, seal. -/
import Derived.Test.YtmhjabodhgacnaaPA
set_option maxRecDepth 100000
namespace Go.Proofs.Ytmhjabodhgacnaa
open Go.RowKit

theorem wrap_u32 (n : Int) : IntKind.u32.wrap n = n % 4294967296 := by simp [IntKind.wrap, IntKind.bits, IntKind.signed]
theorem u32_xor_nat (a b : Nat) (ha : a < 4294967296) (hb : b < 4294967296) : bits .xor .u32 (a : Int) (b : Int) = ((a ^^^ b : Nat) : Int) := by
  have hx : a ^^^ b < 2 ^ 32 := Nat.xor_lt_two_pow (by omega) (by omega)
  have h1 : (BitVec.ofInt 32 (a : Int)).toNat = a := by
    rw [BitVec.ofInt_natCast, BitVec.toNat_ofNat]; exact Nat.mod_eq_of_lt (by omega)
  have h2 : (BitVec.ofInt 32 (b : Int)).toNat = b := by
    rw [BitVec.ofInt_natCast, BitVec.toNat_ofNat]; exact Nat.mod_eq_of_lt (by omega)
  show IntKind.u32.wrap ((BitVec.ofInt 32 (a : Int) ^^^ BitVec.ofInt 32 (b : Int)).toNat : Int) = _
  rw [BitVec.toNat_xor, h1, h2, wrap_u32]
  omega
theorem step_u32 (s x : Nat) (hs : s < 4294967296) (hx : x < 256) : bits .xor .u32 (s : Int) (x : Int) * 16777619 % 4294967296 = (stepS s x : Nat) := by
  rw [u32_xor_nat s x hs (by omega)]
  unfold stepS
  rw [Int.natCast_emod, Int.natCast_mul]
  rfl
set_option maxHeartbeats 2000000 in
theorem sum_any (v : Value) (l : List Nat) (w : World) (h : BytesAt w v l) (hl : l.length < 9223372036854775808) (hb : ∀ x ∈ l, x < 256) :
    Calls Try.prog 15 #[v] w fun e w' => e = .returned (.int .u32 (sumB l : Nat)) ∧ w' = w := by
  have HA := Lib.hid h
  obtain ⟨a, c, rfl, hc⟩ := h.len
  have HBB := Lib.hid hb
  clear h hb
  go_enter Try.func15, Try.ntmps15
  go_wp2
  go_loopw [3, 8] (fun s i wr => ∃ k : Nat, i = .int .i64 k ∧ k ≤ l.length ∧ s = .int .u32 (sumB (l.take k) : Nat) ∧ wr = w) (fun _ i _ => l.length - (intOf i).toNat)
  case atStart => exact ⟨0, rfl, Nat.zero_le _, rfl, rfl⟩
  case round =>
    obtain ⟨k, rfl, hk, rfl, rfl⟩ := hrel
    by_cases hlt : k < l.length
    · have hd : decide ((k : Int) < l.length) = true := decide_eq_true (by omega)
      have hki : (k : Int) < l.length := by omega
      obtain ⟨b, o, rfl, c0⟩ := HA.out.at hlt
      have hx := HBB.out l[k] (List.getElem_mem hlt)
      have HSN := Lib.hid (show sumB (l.take (k + 1)) = stepS (sumB (l.take k)) l[k] from by rw [List.take_succ_eq_append_getElem hlt, sumB_snoc])
      have hs := sumB_lt (l.take k)
      generalize sumB (l.take k) = s at *
      generalize l[k] = x at *
      have HST := Lib.hid (step_u32 s x hs hx)
      go_wp2
      exact ⟨⟨k + 1, rfl, hlt, by rw [HSN.out, HST.out], trivial⟩, by simp only [intOf]; omega⟩
    · obtain rfl : k = l.length := by omega
      have hd : decide ((l.length : Int) < l.length) = false := by simp
      have HT := Lib.hid (List.take_length (l := l))
      go_wp2
      go_ret
      exact ⟨by rw [HT.out]; rfl, rfl⟩
theorem four_cells (n : Nat) : (u8s (fourB n)) = [.int .u8 ((n % 256 : Nat)), .int .u8 ((n / 256 % 256 : Nat)), .int .u8 ((n / 65536 % 256 : Nat)), .int .u8 ((n / 16777216 % 256 : Nat))] := rfl
set_option maxHeartbeats 2000000 in
theorem seal_any (v : Value) (l : List Nat) (w : World) (h : BytesAt w v l) (hl : l.length < 9223372036854775808) (hb : ∀ x ∈ l, x < 256) :
    Calls Try.prog 25 #[v] w fun e w' => e = .returned (.agg (u8s (fourB (sumB l))).toArray) ∧ Below w.heap.size w w' := by
  have hs := sumB_lt l
  have HSU := Lib.hid (fun W hW => sum_any v l W (h.below hW) hl hb)
  clear h hl hb
  generalize sumB l = s at *
  go_enter Try.func25, Try.ntmps25
  go_wp2_with (go_at_call 15; (with_reducible refine (HSU.out _ (new_one w _)).mono ?_); rintro e w5 ⟨rfl, e5⟩; subst w5)
  refine bodyPost_ret (v := .agg #[.int .u8 ((s : Int) % 256), .int .u8 ((s : Int) / 256 % 256), .int .u8 ((s : Int) / 65536 % 256), .int .u8 ((s : Int) / 16777216)]) (by simp [results, Try.results25, go_sem]) rfl ⟨?_, new_one w _⟩
  have h1 : ((s % 256 : Nat) : Int) = (s : Int) % 256 := by omega
  have h2 : ((s / 256 % 256 : Nat) : Int) = (s : Int) / 256 % 256 := by omega
  have h3 : ((s / 65536 % 256 : Nat) : Int) = (s : Int) / 65536 % 256 := by omega
  have h4 : ((s / 16777216 % 256 : Nat) : Int) = (s : Int) / 16777216 := by omega
  rw [four_cells, h1, h2, h3, h4]
end Go.Proofs.Ytmhjabodhgacnaa
