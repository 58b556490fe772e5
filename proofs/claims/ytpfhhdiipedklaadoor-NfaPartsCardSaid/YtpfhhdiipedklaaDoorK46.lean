/- Texts that a proof rests on: A plain pattern in a part of a text; texts one behind the other. -/
import Derived.Test.YtpfhhdiipedklaaDoorK45
set_option maxRecDepth 100000
namespace Go.Proofs.YtpfhhdiipedklaaDoor
open Go.RowKit

theorem part_get (s : ByteArray) (a b k : Nat) (hb : b ≤ s.size) (h : k < (s.extract a b).size) : ∃ h2 : a + k < s.size, (s.extract a b)[k] = s[a + k] := by
  have h3 : k < b - a := by simpa [Nat.min_eq_left hb] using h
  refine ⟨by omega, ?_⟩
  exact ByteArray.getElem_extract (h := h)
theorem part_size (s : ByteArray) (a b : Nat) (hb : b ≤ s.size) : (s.extract a b).size = b - a := by simp [Nat.min_eq_left hb]
theorem M_part (s : ByteArray) (a b : Nat) (hab : a ≤ b) (hb : b ≤ s.size) (p : Pat) : p.good = true → p.pln = true → ∀ i j : Int, 0 ≤ i → i ≤ b - a → j ≤ b - a → (p.M (s.extract a b) i j ↔ p.M s (i + a) (j + a)) := by
  have hsz := part_size s a b hb
  induction p using Pat.by_size with | h p ih => ?_
  intro hg hp
  obtain ⟨hop, hone, _, _, hkk⟩ := plain_kind hg hp
  have hk : ∀ q ∈ p.kids, ∀ i j : Int, 0 ≤ i → i ≤ b - a → j ≤ b - a → (q.M (s.extract a b) i j ↔ q.M s (i + a) (j + a)) := fun q hq => ih q hq (hkk q hq).1 (hkk q hq).2
  have hrow : ∀ l : List Pat, (∀ q ∈ l, q ∈ p.kids) → ∀ i j : Int, 0 ≤ i → i ≤ b - a → j ≤ b - a → (rowM (s.extract a b) l i j ↔ rowM s l (i + a) (j + a)) := by
    intro l
    induction l with
    | nil => intro _ i j _ _ _; rw [rowM_nil, rowM_nil]; omega
    | cons q l ih2 =>
      intro hl i j h0 h1 h2
      rw [rowM_cons, rowM_cons]
      constructor
      · rintro ⟨m, h3, h4⟩
        have h5 := M_mono _ _ _ _ h3 h0 (by omega)
        exact ⟨m + a, (hk q (hl q (by simp)) i m h0 h1 (by omega)).1 h3, (ih2 (fun x hx => hl x (List.mem_cons_of_mem _ hx)) m j (by omega) (by omega) h2).1 h4⟩
      · rintro ⟨m, h3, h4⟩
        have h5 := M_mono _ _ _ _ h3 (by omega) (by omega)
        have h6 := rowM_mono (fun p _ i j h => M_mono s p i j h) _ _ h4 (by omega) h5.2
        obtain ⟨m, rfl⟩ : ∃ m' : Int, m = m' + a := ⟨m - a, by omega⟩
        exact ⟨m, (hk q (hl q (by simp)) i m h0 h1 (by omega)).2 h3, (ih2 (fun x hx => hl x (List.mem_cons_of_mem _ hx)) m j (by omega) (by omega) h2).2 h4⟩
  intro i j h0 h1 h2
  rcases hop with e | e | e | e
  · rw [M_set e, M_set e]
    constructor
    · rintro ⟨_, h3, h4, h5⟩
      obtain ⟨h6, h7⟩ := part_get s a b i.toNat hb h4
      refine ⟨by omega, by omega, by omega, ?_⟩
      rw [h7] at h5
      have : (i + a).toNat = a + i.toNat := by omega
      simp only [this]; exact h5
    · rintro ⟨_, h3, h4, h5⟩
      have h6 : i.toNat < (s.extract a b).size := by omega
      obtain ⟨h7, h8⟩ := part_get s a b i.toNat hb h6
      refine ⟨h0, by omega, h6, ?_⟩
      rw [h8]
      have : (i + a).toNat = a + i.toNat := by omega
      simp only [this] at h5; exact h5
  · rw [M_cat e, M_cat e]
    exact hrow p.kids (fun _ h => h) i j h0 h1 h2
  · rw [M_alt e, M_alt e, altM_iff, altM_iff]
    exact ⟨fun ⟨q, hq, h⟩ => ⟨q, hq, (hk q hq i j h0 h1 h2).1 h⟩, fun ⟨q, hq, h⟩ => ⟨q, hq, (hk q hq i j h0 h1 h2).2 h⟩⟩
  · rw [M_rep e, M_rep e]
    have hpw : ∀ (k : Nat) (i j : Int), 0 ≤ i → i ≤ b - a → j ≤ b - a → (Pw (rowM (s.extract a b) p.kids) k i j ↔ Pw (rowM s p.kids) k (i + a) (j + a)) := by
      intro k
      induction k with
      | zero => intro i j _ _ _; rw [Pw, Pw]; omega
      | succ k ih2 =>
        intro i j h0 h1 h2
        rw [Pw, Pw]
        constructor
        · rintro ⟨m, h3, h4⟩
          have h5 := rowM_mono (fun p _ i j h => M_mono (s.extract a b) p i j h) _ _ h3 h0 (by omega)
          exact ⟨m + a, (hrow p.kids (fun _ h => h) i m h0 h1 (by omega)).1 h3, (ih2 m j (by omega) (by omega) h2).1 h4⟩
        · rintro ⟨m, h3, h4⟩
          have h5 := rowM_mono (fun p _ i j h => M_mono s p i j h) _ _ h3 (by omega) (by omega)
          have h6 := Pw_mono (fun i j h => rowM_mono (fun p _ i j h => M_mono s p i j h) i j h) _ _ _ h4 (by omega) h5.2
          obtain ⟨m, rfl⟩ : ∃ m' : Int, m = m' + a := ⟨m - a, by omega⟩
          exact ⟨m, (hrow p.kids (fun _ h => h) i m h0 h1 (by omega)).2 h3, (ih2 m j (by omega) (by omega) h2).2 h4⟩
    exact ⟨fun ⟨k, h3, h4, h5⟩ => ⟨k, h3, h4, (hpw k i j h0 h1 h2).1 h5⟩, fun ⟨k, h3, h4, h5⟩ => ⟨k, h3, h4, (hpw k i j h0 h1 h2).2 h5⟩⟩
/-- Has a place been found, up to the k-th, at which the text can be parted? -/
noncomputable def parted (s : ByteArray) (x y : Pat) (k : Nat) : Bool := (List.range k).any fun i => MB (s.extract 0 i) x && MB (s.extract i s.size) y
theorem parted_succ (s : ByteArray) (x y : Pat) (k : Nat) : parted s x y (k + 1) = (parted s x y k || (MB (s.extract 0 k) x && MB (s.extract k s.size) y)) := by
  unfold parted
  rw [List.range_succ, List.any_append]
  simp
def catP (x y : Pat) : Pat := .mk 1 0 0 0 [x, y]
def altP (x y : Pat) : Pat := .mk 2 0 0 0 [x, y]
theorem parted_all (s : ByteArray) (x y : Pat) (hx : x.good = true ∧ x.pln = true) (hy : y.good = true ∧ y.pln = true) : parted s x y (s.size + 1) = MB s (catP x y) := by
  rw [Bool.eq_iff_iff, MB_true, M_cat rfl]
  show _ ↔ rowM s [x, y] 0 s.size
  unfold parted
  rw [List.any_eq_true, rowM_cons]
  constructor
  · rintro ⟨i, hi, h⟩
    have hi2 : i ≤ s.size := by have := List.mem_range.1 hi; omega
    rw [Bool.and_eq_true, MB_true, MB_true, part_size s 0 i hi2, part_size s i s.size (Nat.le_refl _)] at h
    have h1 := (M_part s 0 i (Nat.zero_le _) hi2 x hx.1 hx.2 0 ((i - 0 : Nat) : Int) (by omega) (by omega) (by omega)).1 h.1
    have h2 := (M_part s i s.size hi2 (Nat.le_refl _) y hy.1 hy.2 0 ((s.size - i : Nat) : Int) (by omega) (by omega) (by omega)).1 h.2
    refine ⟨i, by simpa using h1, (rowM_one _ _ _ _).2 ?_⟩
    have e1 : (0 : Int) + i = i := by omega
    have e2 : ((s.size - i : Nat) : Int) + i = s.size := by omega
    rwa [e1, e2] at h2
  · rintro ⟨m, h1, h2⟩
    have hm := M_mono _ _ _ _ h1 (by omega) (by omega)
    obtain ⟨i, rfl⟩ : ∃ i : Nat, m = i := ⟨m.toNat, by omega⟩
    have hi2 : i ≤ s.size := by omega
    refine ⟨i, List.mem_range.2 (by omega), ?_⟩
    rw [Bool.and_eq_true, MB_true, MB_true, part_size s 0 i hi2, part_size s i s.size (Nat.le_refl _)]
    refine ⟨(M_part s 0 i (Nat.zero_le _) hi2 x hx.1 hx.2 0 ((i - 0 : Nat) : Int) (by omega) (by omega) (by omega)).2 (by simpa using h1), (M_part s i s.size hi2 (Nat.le_refl _) y hy.1 hy.2 0 ((s.size - i : Nat) : Int) (by omega) (by omega) (by omega)).2 ?_⟩
    have e1 : (0 : Int) + i = i := by omega
    have e2 : ((s.size - i : Nat) : Int) + i = s.size := by omega
    rw [e1, e2]
    exact (rowM_one _ _ _ _).1 h2
theorem MB_alt (s : ByteArray) (x y : Pat) : MB s (altP x y) = (MB s x || MB s y) := by
  rw [Bool.eq_iff_iff, Bool.or_eq_true, MB_true, MB_true, MB_true, M_alt rfl]
  show altM s [x, y] 0 s.size ↔ _
  rw [altM_iff]
  simp
theorem two_good {op : Int} {x y : Pat} (hop : op = 1 ∨ op = 2) (hx : x.good = true ∧ x.pln = true) (hy : y.good = true ∧ y.pln = true) : (Pat.mk op 0 0 0 [x, y]).good = true ∧ (Pat.mk op 0 0 0 [x, y]).pln = true := by
  rw [good_eq, pln_eq]
  rcases hop with rfl | rfl <;> simp [Pat.op, Pat.lo, Pat.hi, Pat.kids, okN, hx.1, hx.2, hy.1, hy.2]
end Go.Proofs.YtpfhhdiipedklaaDoor
