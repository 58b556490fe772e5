/- Contract of slices.Reverse on rows of bytes of one's own; such a row as a string. -/
import Derived.Test.YtiikmpgadmmjeaaX2
import Derived.Laws.BytesString
import Derived.Laws.Cells
import Derived.RegionTactic
import Derived.BigRegion
set_option maxRecDepth 100000
namespace Go.Proofs.Ytiikmpgadmmjeaa
open Go.RowKit

/-- Bytes as values. -/
def u8s (l : List Nat) : List Value := l.map fun x : Nat => Value.int .u8 (x : Int)
theorem u8s_at {l : List Nat} {i : Nat} (h : i < l.length) : (u8s l)[i]? = some (.int .u8 (l[i] : Nat)) := by simp [u8s, h]
theorem u8s_set (l : List Nat) (i x : Nat) : (u8s l).set i (.int .u8 (x : Nat)) = u8s (l.set i x) := by simp [u8s, List.map_set]
theorem u8s_snoc (l : List Nat) (x : Nat) : u8s (l ++ [x]) = u8s l ++ [.int .u8 (x : Nat)] := by simp [u8s]
theorem u8s_len (l : List Nat) : (u8s l).length = l.length := by simp [u8s]
/-- The outermost k pairs exchanged. -/
def rv (L : List Nat) : Nat → List Nat
  | 0 => L
  | k + 1 => match (rv L k)[L.length - 1 - k]?, (rv L k)[k]? with
    | some y, some x => ((rv L k).set k y).set (L.length - 1 - k) x
    | _, _ => rv L k
theorem rv_length (L : List Nat) : ∀ k, (rv L k).length = L.length
  | 0 => rfl
  | k + 1 => by
    rw [rv]
    split
    · rw [List.length_set, List.length_set, rv_length L k]
    · exact rv_length L k
theorem rv_step (L : List Nat) (k : Nat) (h1 : k < (rv L k).length) (h2 : L.length - 1 - k < (rv L k).length) : rv L (k + 1) = ((rv L k).set k (rv L k)[L.length - 1 - k]).set (L.length - 1 - k) (rv L k)[k] := by
  rw [rv, List.getElem?_eq_getElem h2, List.getElem?_eq_getElem h1]
theorem rv_at (L : List Nat) : ∀ k, 2 * k ≤ L.length → ∀ m, m < L.length → (rv L k)[m]? = if m < k ∨ L.length - k ≤ m then L[L.length - 1 - m]? else L[m]?
  | 0, _, m, hm => by rw [rv, if_neg (by omega)]
  | k + 1, hk, m, hm => by
    have hl := rv_length L k
    have ih := rv_at L k (by omega)
    by_cases he : L.length - 1 - k = k
    · omega
    · have hlt : k < L.length - 1 - k := by omega
      rw [rv_step L k (by omega) (by omega), List.getElem?_set, List.getElem?_set]
      by_cases h1 : L.length - 1 - k = m
      · rw [if_pos h1, if_pos (by simp; omega), if_pos (by omega)]
        have := ih k (by omega)
        rw [List.getElem?_eq_getElem (by omega), if_neg (by omega)] at this
        rw [this, show L.length - 1 - m = k from by omega]
      · rw [if_neg h1]
        by_cases h2 : k = m
        · rw [if_pos h2, if_pos (by omega), if_pos (by omega)]
          have := ih (L.length - 1 - k) (by omega)
          rw [List.getElem?_eq_getElem (by omega), if_neg (by omega)] at this
          rw [this, h2]
        · rw [if_neg h2, ih m hm]
          by_cases h3 : m < k ∨ L.length - k ≤ m
          · rw [if_pos h3, if_pos (by omega)]
          · rw [if_neg h3, if_neg (by omega)]
theorem rv_end (L : List Nat) (k : Nat) (hk : 2 * k ≤ L.length) (h : L.length ≤ 2 * k + 1) : rv L k = L.reverse := by
  apply List.ext_getElem?
  intro m
  by_cases hm : m < L.length
  · rw [rv_at L k hk m hm, List.getElem?_reverse hm]
    by_cases h1 : m < k ∨ L.length - k ≤ m
    · rw [if_pos h1]
    · rw [if_neg h1, show L.length - 1 - m = m from by omega]
  · rw [List.getElem?_eq_none (by rw [rv_length]; omega), List.getElem?_eq_none (by simp; omega)]
/-- A text as a string. -/
def strOf (L : List Nat) : ByteArray := ⟨(L.map UInt8.ofNat).toArray⟩
theorem foldl_push_bytes (xs : List Nat) : ∀ r : ByteArray, ((xs.map fun x : Nat => (x : Int)).foldl (fun (r : ByteArray) (n : Int) => r.push (UInt8.ofNat n.toNat)) r) = ⟨r.data ++ (xs.map fun x => UInt8.ofNat x).toArray⟩ := by
  induction xs with
  | nil => intro r; simp
  | cons x xs ih =>
    intro r
    simp only [List.map_cons, List.foldl_cons, Int.toNat_natCast]
    rw [ih]
    congr 1
    simp [ByteArray.push]
theorem conv_u8 {w : World} {B cp : Nat} {L : List Nat} {a : Option Addr} (h : w.ownsRow B 5 1 (.slice a L.length cp) L.length (u8s L)) :
    (convert 28 9 (.slice a L.length cp)).run Try.prog w = .ok (.string (strOf L)) w := by
  rw [run_convert_bytes_string w _ _ _ _ _ cp Try.underlying28 Try.underlying5 Try.underlying9]
  by_cases h0 : L.length = 0
  · have hL : L = [] := List.eq_nil_of_length_eq_zero h0
    subst hL
    cases a <;> rfl
  obtain ⟨g, c, e, hc⟩ := row_cell h (by omega)
  cases e
  have hl := run_loadCells_list (P := Try.prog) (w := w) ⟨g, 0, none⟩ (u8s L) (fun j v hv => by
    have := hc j v hv
    rw [show (⟨g, 0, none⟩ : Addr).add j = ⟨g, j, none⟩ by simp [Addr.add]; intro e; subst e; rfl]; exact this)
  rw [u8s_len] at hl
  have hu : u8s L = (L.map fun x : Nat => (x : Int)).map (Value.int .u8) := by unfold u8s; rw [List.map_map]; rfl
  rw [hu] at hl
  rw [run_bytesToString w ⟨g, 0, none⟩ _ cp _ hl, foldl_push_bytes]
  simp [strOf, ByteArray.empty, ByteArray.emptyWithCapacity]
  rfl
end Go.Proofs.Ytiikmpgadmmjeaa
