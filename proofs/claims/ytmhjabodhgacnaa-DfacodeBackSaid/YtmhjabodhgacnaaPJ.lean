/- Contracts: bytes.Equal, HasPrefix, CutPrefix. -/
import Derived.Test.YtmhjabodhgacnaaPC
set_option maxRecDepth 100000
namespace Go.Proofs.Ytmhjabodhgacnaa
open Go.RowKit

/-- What begins with other bytes. -/
def preB (r l : List Nat) : Bool := decide (r.length ≤ l.length) && decide (l.take r.length = r)
theorem preB_iff {r l : List Nat} : preB r l = true ↔ r <+: l := by
  unfold preB
  rw [Bool.and_eq_true, decide_eq_true_eq, decide_eq_true_eq]
  constructor
  · rintro ⟨_, h⟩
    rw [← h]; exact List.take_prefix _ _
  · intro h
    exact ⟨h.length_le, (List.prefix_iff_eq_take.1 h).symm⟩
theorem same_text {l r : List Nat} (hl : ∀ x ∈ l, x < 256) (hr : ∀ x ∈ r, x < 256) : ((strOf l).toList == (strOf r).toList) = decide (l = r) := by
  rw [Bool.eq_iff_iff, beq_iff_eq, decide_eq_true_eq]
  constructor
  · intro h
    apply strOf_inj hl hr
    rw [ByteArray.toList_eq, ByteArray.toList_eq] at h
    exact ByteArray.ext (Array.toList_inj.1 h)
  · rintro rfl; rfl
set_option maxHeartbeats 2000000 in
theorem equal_any (v u : Value) (l r : List Nat) (w : World) (h1 : BytesAt w v l) (h2 : BytesAt w u r) (hl : ∀ x ∈ l, x < 256) (hr : ∀ x ∈ r, x < 256) :
    Calls Try.prog 39 #[v, u] w fun e w' => e = .returned (.bool (decide (l = r))) ∧ w' = w := by
  obtain ⟨a1, c1, rfl, _⟩ := h1.len
  obtain ⟨a2, c2, rfl, _⟩ := h2.len
  have k1 := conv_bytes h1
  have k2 := conv_bytes h2
  have hb := same_text hl hr
  clear h1 h2 hl hr
  generalize decide (l = r) = z at *
  go_enter Try.func39, Try.ntmps39
  go_wp2_with fail
  go_ret
  exact ⟨rfl, rfl⟩
set_option maxHeartbeats 2000000 in
theorem hasprefix_any (v u : Value) (l r : List Nat) (w : World) (h1 : BytesAt w v l) (h2 : BytesAt w u r) (hl : ∀ x ∈ l, x < 256) (hr : ∀ x ∈ r, x < 256) :
    Calls Try.prog 32 #[v, u] w fun e w' => e = .returned (.bool (preB r l)) ∧ w' = w := by
  obtain ⟨a1, n1, rfl, hc1⟩ := h1.len
  obtain ⟨a2, n2, rfl, _⟩ := h2.len
  by_cases hle : r.length ≤ l.length
  · have d1 : decide ((l.length : Int) ≥ r.length) = true := decide_eq_true (by omega)
    have d2 : decide ((r.length : Int) ≤ l.length) = true := decide_eq_true (by omega)
    have d3 : decide (r.length ≤ l.length) = true := decide_eq_true hle
    have HT := h1.take (k := r.length) hle
    have hs := slice_upto (w := w) (a := a1) (n := l.length) (c := n1) (k := r.length) (by omega)
    obtain ⟨ua, un, uc, hu⟩ : ∃ ua un uc, sliced a1 0 r.length n1 1 = .slice ua un uc := ⟨_, _, _, rfl⟩
    rw [hu] at HT hs
    have HEQ := Lib.hid (equal_any _ _ _ r w HT h2 (fun x hx => hl x (List.mem_of_mem_take hx)) hr)
    have HP := Lib.hid (show preB r l = decide (l.take r.length = r) from by unfold preB; rw [d3, Bool.true_and])
    rw [HP.out]
    clear h1 h2 hl hr HT hu hle
    generalize decide (l.take r.length = r) = z at *
    go_enter Try.func32, Try.ntmps32
    go_wp2_with (go_at_call 39; (with_reducible refine HEQ.out.mono ?_); rintro e w5 ⟨rfl, e5⟩; subst w5)
    go_ret
    exact ⟨rfl, rfl⟩
  · have d1 : decide ((l.length : Int) ≥ r.length) = false := decide_eq_false (by omega)
    have d2 : decide ((r.length : Int) ≤ l.length) = false := decide_eq_false (by omega)
    have d3 : decide (r.length ≤ l.length) = false := decide_eq_false hle
    have HP := Lib.hid (show preB r l = false from by unfold preB; rw [d3, Bool.false_and])
    rw [HP.out]
    clear h1 h2 hl hr hle
    go_enter Try.func32, Try.ntmps32
    go_wp2_with fail
    go_ret
    exact ⟨rfl, rfl⟩
set_option maxHeartbeats 2000000 in
theorem cutprefix_any (v u : Value) (l r : List Nat) (w : World) (R : Nat) (h1 : BytesAt w v l) (h2 : BytesAt w u r) (hl : ∀ x ∈ l, x < 256) (hr : ∀ x ∈ r, x < 256) (hv : LowB R v) :
    Calls Try.prog 28 #[v, u] w fun e w' => ∃ z, e = .returned (.tuple #[z, .bool (preB r l)]) ∧ Hid (BytesAt w z (if preB r l then l.drop r.length else l)) ∧ Hid (LowB R z) ∧ w' = w := by
  have HP := Lib.hid (hasprefix_any v u l r w h1 h2 hl hr)
  have H1 := Lib.hid h1
  have HV := Lib.hid hv
  obtain ⟨a1, n1, rfl, hc1⟩ := h1.len
  obtain ⟨a2, n2, rfl, _⟩ := h2.len
  have HIFF := Lib.hid (preB_iff (r := r) (l := l))
  clear h1 h2 hl hr hv
  cases hp : preB r l
  · rw [hp] at HP
    have hp2 : (if false = true then l.drop r.length else l) = l := rfl
    clear HIFF hp
    go_enter Try.func28, Try.ntmps28
    go_wp2_with (go_at_call 32; (with_reducible refine HP.out.mono ?_); rintro e w5 ⟨rfl, e5⟩; subst w5)
    go_ret2
    exact ⟨_, rfl, H1, HV, rfl⟩
  · rw [hp] at HP
    have hle : r.length ≤ l.length := (HIFF.out.1 hp).length_le
    have hs := slice_from (w := w) (a := a1) (n := l.length) (c := n1) (k := r.length) hle
    have HD := Lib.hid (H1.out.drop (k := r.length) hle)
    have HLS := Lib.hid (low_sliced (l := r.length) (h := l.length) (m := n1) (s := 1) HV.out)
    obtain ⟨ua, un, uc, hu⟩ : ∃ ua un uc, sliced a1 r.length l.length n1 1 = .slice ua un uc := ⟨_, _, _, rfl⟩
    rw [hu] at HD hs HLS
    clear HIFF hp hu
    go_enter Try.func28, Try.ntmps28
    go_wp2_with (go_at_call 32; (with_reducible refine HP.out.mono ?_); rintro e w5 ⟨rfl, e5⟩; subst w5)
    go_ret2
    exact ⟨_, rfl, HD, HLS, rfl⟩
end Go.Proofs.Ytmhjabodhgacnaa
