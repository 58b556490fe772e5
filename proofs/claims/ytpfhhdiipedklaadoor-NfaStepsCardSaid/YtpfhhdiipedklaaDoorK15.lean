/- Texts that a proof rests on: What a pattern matches, by definition. | Rows of nodes of one's own: stores, and cuts. | Contracts of homographref02: may, Check. | What repetitions match, in other words. -/
import Derived.Test.YtpfhhdiipedklaaDoorK09
set_option maxRecDepth 20000
namespace Go.Proofs.YtpfhhdiipedklaaDoor
open Go.RowKit

/-- So many steps. -/
def Pw (R : Int → Int → Prop) : Nat → Int → Int → Prop
  | 0, i, j => i = j
  | k + 1, i, j => ∃ m, R i m ∧ Pw R k m j
mutual
/-- Does a pattern match a text from one place up to another? -/
def Pat.M (s : ByteArray) : Pat → Int → Int → Prop
  | .mk op c lo hi kids, i, j =>
    (op = 0 ∧ 0 ≤ i ∧ j = i + 1 ∧ ∃ h : i.toNat < s.size, c.getLsbD s[i.toNat].toNat = true) ∨
    (op = 1 ∧ rowM s kids i j) ∨
    (op = 2 ∧ altM s kids i j) ∨
    (op = 3 ∧ ∃ k : Nat, lo ≤ k ∧ (hi < 0 ∨ (k : Int) ≤ hi) ∧ Pw (fun a b => rowM s kids a b) k i j) ∨
    (op = 4 ∧ i ≤ j ∧ j ≤ s.size ∧ allM s kids i j) ∨
    (op = 5 ∧ i ≤ j ∧ j ≤ s.size ∧ ¬ rowM s kids i j)
def rowM (s : ByteArray) : List Pat → Int → Int → Prop
  | [], i, j => i = j
  | p :: ps, i, j => ∃ m, p.M s i m ∧ rowM s ps m j
def altM (s : ByteArray) : List Pat → Int → Int → Prop
  | [], _, _ => False
  | p :: ps, i, j => p.M s i j ∨ altM s ps i j
def allM (s : ByteArray) : List Pat → Int → Int → Prop
  | [], _, _ => True
  | p :: ps, i, j => p.M s i j ∧ allM s ps i j
end
theorem M_eq (s : ByteArray) (p : Pat) (i j : Int) : p.M s i j ↔
    (p.op = 0 ∧ 0 ≤ i ∧ j = i + 1 ∧ ∃ h : i.toNat < s.size, p.set.getLsbD s[i.toNat].toNat = true) ∨
    (p.op = 1 ∧ rowM s p.kids i j) ∨
    (p.op = 2 ∧ altM s p.kids i j) ∨
    (p.op = 3 ∧ ∃ k : Nat, p.lo ≤ k ∧ (p.hi < 0 ∨ (k : Int) ≤ p.hi) ∧ Pw (rowM s p.kids) k i j) ∨
    (p.op = 4 ∧ i ≤ j ∧ j ≤ s.size ∧ allM s p.kids i j) ∨
    (p.op = 5 ∧ i ≤ j ∧ j ≤ s.size ∧ ¬ rowM s p.kids i j) := by
  cases p; rw [Pat.M]; rfl
theorem M_set {s : ByteArray} {p : Pat} (h : p.op = 0) (i j : Int) : p.M s i j ↔ (0 ≤ i ∧ j = i + 1 ∧ ∃ h : i.toNat < s.size, p.set.getLsbD s[i.toNat].toNat = true) := by
  rw [M_eq, h]; simp
theorem M_cat {s : ByteArray} {p : Pat} (h : p.op = 1) (i j : Int) : p.M s i j ↔ rowM s p.kids i j := by rw [M_eq, h]; simp
theorem M_alt {s : ByteArray} {p : Pat} (h : p.op = 2) (i j : Int) : p.M s i j ↔ altM s p.kids i j := by rw [M_eq, h]; simp
theorem M_rep {s : ByteArray} {p : Pat} (h : p.op = 3) (i j : Int) : p.M s i j ↔ ∃ k : Nat, p.lo ≤ k ∧ (p.hi < 0 ∨ (k : Int) ≤ p.hi) ∧ Pw (rowM s p.kids) k i j := by rw [M_eq, h]; simp
theorem M_and {s : ByteArray} {p : Pat} (h : p.op = 4) (i j : Int) : p.M s i j ↔ (i ≤ j ∧ j ≤ s.size ∧ allM s p.kids i j) := by rw [M_eq, h]; simp
theorem M_not {s : ByteArray} {p : Pat} (h : p.op = 5) (i j : Int) : p.M s i j ↔ (i ≤ j ∧ j ≤ s.size ∧ ¬ rowM s p.kids i j) := by rw [M_eq, h]; simp
theorem M_none {s : ByteArray} {p : Pat} (h : p.op ≠ 0 ∧ p.op ≠ 1 ∧ p.op ≠ 2 ∧ p.op ≠ 3 ∧ p.op ≠ 4 ∧ p.op ≠ 5) (i j : Int) : ¬ p.M s i j := by
  obtain ⟨h0, h1, h2, h3, h4, h5⟩ := h
  rw [M_eq]; simp [h0, h1, h2, h3, h4, h5]
theorem rowM_nil (s : ByteArray) (i j : Int) : rowM s [] i j ↔ i = j := by rw [rowM]
theorem rowM_cons (s : ByteArray) (p : Pat) (l : List Pat) (i j : Int) : rowM s (p :: l) i j ↔ ∃ m, p.M s i m ∧ rowM s l m j := by rw [rowM]
theorem rowM_one (s : ByteArray) (p : Pat) (i j : Int) : rowM s [p] i j ↔ p.M s i j := by
  rw [rowM_cons]; simp only [rowM_nil]
  exact ⟨fun ⟨m, h, e⟩ => e ▸ h, fun h => ⟨j, h, rfl⟩⟩
theorem rowM_append (s : ByteArray) (a b : List Pat) : ∀ (i j : Int), rowM s (a ++ b) i j ↔ ∃ m, rowM s a i m ∧ rowM s b m j := by
  induction a with
  | nil => intro i j; simp only [List.nil_append, rowM_nil]; exact ⟨fun h => ⟨i, rfl, h⟩, fun ⟨m, e, h⟩ => e ▸ h⟩
  | cons p l ih =>
    intro i j
    simp only [List.cons_append, rowM_cons, ih]
    exact ⟨fun ⟨m, h, n, h1, h2⟩ => ⟨n, ⟨m, h, h1⟩, h2⟩, fun ⟨n, ⟨m, h, h1⟩, h2⟩ => ⟨m, h, n, h1, h2⟩⟩
theorem altM_iff (s : ByteArray) (l : List Pat) (i j : Int) : altM s l i j ↔ ∃ p ∈ l, p.M s i j := by
  induction l with
  | nil => simp [altM]
  | cons p l ih => rw [altM, ih]; simp
theorem allM_iff (s : ByteArray) (l : List Pat) (i j : Int) : allM s l i j ↔ ∀ p ∈ l, p.M s i j := by
  induction l with
  | nil => simp [allM]
  | cons p l ih => rw [allM, ih]; simp
/-- It goes on, and not beyond the end. -/
theorem Pw_mono {R : Int → Int → Prop} {n : Int} (h : ∀ i j, R i j → 0 ≤ i → i ≤ n → i ≤ j ∧ j ≤ n) : ∀ k i j, Pw R k i j → 0 ≤ i → i ≤ n → i ≤ j ∧ j ≤ n
  | 0, i, j, e, h0, h1 => by rw [Pw] at e; omega
  | k + 1, i, j, ⟨m, h2, h3⟩, h0, h1 => by
    have a := h i m h2 h0 h1
    have b := Pw_mono h k m j h3 (by omega) a.2
    omega
theorem rowM_mono {s : ByteArray} : ∀ {l : List Pat}, (∀ p ∈ l, ∀ i j : Int, p.M s i j → 0 ≤ i → i ≤ s.size → i ≤ j ∧ j ≤ s.size) → ∀ i j : Int, rowM s l i j → 0 ≤ i → i ≤ s.size → i ≤ j ∧ j ≤ s.size
  | [], _, i, j, h, h0, h1 => by rw [rowM_nil] at h; omega
  | p :: l, H, i, j, h, h0, h1 => by
    obtain ⟨m, h2, h3⟩ := (rowM_cons _ _ _ _ _).1 h
    have a := H p (by simp) i m h2 h0 h1
    have b := rowM_mono (fun q hq => H q (by simp [hq])) m j h3 (by omega) a.2
    omega
theorem M_mono (s : ByteArray) (p : Pat) : ∀ i j : Int, p.M s i j → 0 ≤ i → i ≤ s.size → i ≤ j ∧ j ≤ s.size := by
  induction p using Pat.by_size with | h p ih => ?_
  intro i j h h0 h1
  rcases (M_eq _ _ _ _).1 h with ⟨_, h2, h3, h4, _⟩ | ⟨_, h2⟩ | ⟨_, h2⟩ | ⟨_, k, _, _, h2⟩ | ⟨_, h2, h3, _⟩ | ⟨_, h2, h3, _⟩
  · omega
  · exact rowM_mono ih i j h2 h0 h1
  · obtain ⟨q, hq, h3⟩ := (altM_iff _ _ _ _).1 h2
    exact ih q hq i j h3 h0 h1
  · exact Pw_mono (n := s.size) (fun a b => rowM_mono ih a b) k i j h2 h0 h1
  · exact ⟨h2, h3⟩
  · exact ⟨h2, h3⟩
theorem row_mono (s : ByteArray) (l : List Pat) : ∀ i j : Int, rowM s l i j → 0 ≤ i → i ≤ s.size → i ≤ j ∧ j ≤ s.size := rowM_mono fun p _ => M_mono s p
theorem Pw_same {R : Int → Int → Prop} {i : Int} (h : R i i) : ∀ k, Pw R k i i
  | 0 => rfl
  | k + 1 => ⟨i, h, Pw_same h k⟩
theorem Pw_add (R : Int → Int → Prop) : ∀ (a b : Nat) (i j : Int), Pw R (a + b) i j ↔ ∃ m, Pw R a i m ∧ Pw R b m j
  | 0, b, i, j => by rw [Nat.zero_add]; exact ⟨fun h => ⟨i, rfl, h⟩, fun ⟨m, e, h⟩ => by rw [Pw] at e; exact e ▸ h⟩
  | a + 1, b, i, j => by
    rw [Nat.add_right_comm]
    simp only [Pw, Pw_add R a b]
    exact ⟨fun ⟨m, h, n, h1, h2⟩ => ⟨n, ⟨m, h, h1⟩, h2⟩, fun ⟨n, ⟨m, h, h1⟩, h2⟩ => ⟨m, h, n, h1, h2⟩⟩
theorem Pw_one (R : Int → Int → Prop) (i j : Int) : Pw R 1 i j ↔ R i j := by
  simp only [Pw]; exact ⟨fun ⟨m, h, e⟩ => e ▸ h, fun h => ⟨j, h, rfl⟩⟩
theorem Pw_succ (R : Int → Int → Prop) (k : Nat) (i j : Int) : Pw R (k + 1) i j ↔ ∃ m, Pw R k i m ∧ R m j := by
  rw [Pw_add]; simp only [Pw_one]
/-- In a place, all pieces are empty. -/
theorem Pw_stay {R : Int → Int → Prop} {n : Int} (h : ∀ i j, R i j → 0 ≤ i → i ≤ n → i ≤ j ∧ j ≤ n) {k : Nat} {i : Int} (hk : Pw R (k + 1) i i) (h0 : 0 ≤ i) (h1 : i ≤ n) : R i i := by
  obtain ⟨m, h2, h3⟩ := hk
  have a := h i m h2 h0 h1
  have b := Pw_mono h k m i h3 (by omega) a.2
  obtain rfl : m = i := by omega
  exact h2
theorem row_stay {s : ByteArray} : ∀ {l : List Pat}, (∀ p ∈ l, ∀ i : Int, 0 ≤ i → i ≤ s.size → (p.M s i i ↔ p.nul = true)) → ∀ i : Int, 0 ≤ i → i ≤ s.size → (rowM s l i i ↔ nulAll l = true)
  | [], _, i, h0, h1 => by simp [rowM_nil, nulAll]
  | p :: l, H, i, h0, h1 => by
    rw [rowM_cons, nulAll, Bool.and_eq_true, ← H p (by simp) i h0 h1, ← row_stay (fun q hq => H q (by simp [hq])) i h0 h1]
    refine ⟨fun ⟨m, h2, h3⟩ => ?_, fun ⟨h2, h3⟩ => ⟨i, h2, h3⟩⟩
    have a := M_mono s p i m h2 h0 h1
    have b := row_mono s l m i h3 (by omega) a.2
    obtain rfl : m = i := by omega
    exact ⟨h2, h3⟩
/-- It is of one of the kinds; the numbers of a Rep are right. -/
def numN (op lo hi : Int) : Bool := decide (0 ≤ op ∧ op ≤ 5) && (op != 3 || decide (0 ≤ lo ∧ lo ≤ 1000 ∧ hi ≤ 1000 ∧ (0 ≤ hi → lo ≤ hi)))
mutual
/-- .. of all in it. -/
def Pat.num : Pat → Bool
  | .mk op _ lo hi kids => numN op lo hi && numL kids
def numL : List Pat → Bool
  | [] => true
  | p :: ps => p.num && numL ps
end
theorem numL_eq (l : List Pat) : numL l = l.all Pat.num := by induction l with | nil => rfl | cons p ps ih => simp [numL, ih]
theorem num_eq (p : Pat) : p.num = (numN p.op p.lo p.hi && p.kids.all Pat.num) := by cases p; simp only [Pat.num, numL_eq, Pat.op, Pat.lo, Pat.hi, Pat.kids]
/-- What matches the empty text. -/
theorem M_empty (s : ByteArray) (p : Pat) : p.num = true → ∀ i : Int, 0 ≤ i → i ≤ s.size → (p.M s i i ↔ p.nul = true) := by
  induction p using Pat.by_size with | h p ih => ?_
  intro hnum i h0 h1
  rw [num_eq, Bool.and_eq_true, List.all_eq_true] at hnum
  have ih' : ∀ q ∈ p.kids, ∀ i : Int, 0 ≤ i → i ≤ s.size → (q.M s i i ↔ q.nul = true) := fun q hq => ih q hq (hnum.2 q hq)
  have hrow := row_stay ih'
  rw [M_eq]
  have ho : p.nul = (bif p.op == 1 then nulAll p.kids else bif p.op == 4 then nulAll p.kids else bif p.op == 2 then nulOne p.kids else bif p.op == 3 then (p.lo == 0 || nulAll p.kids) else bif p.op == 5 then !nulAll p.kids else false) := by
    cases p; rw [Pat.nul]; rfl
  rw [ho]
  by_cases e0 : p.op = 0
  · rw [e0]; simp; omega
  by_cases e1 : p.op = 1
  · rw [e1]; simp [hrow i h0 h1]
  by_cases e2 : p.op = 2
  · rw [e2]; simp [altM_iff, nulOne_eq]
    exact ⟨fun ⟨q, hq, h⟩ => ⟨q, hq, (ih' q hq i h0 h1).1 h⟩, fun ⟨q, hq, h⟩ => ⟨q, hq, (ih' q hq i h0 h1).2 h⟩⟩
  by_cases e3 : p.op = 3
  · have hn : 0 ≤ p.lo ∧ (0 ≤ p.hi → p.lo ≤ p.hi) := by
      have := hnum.1
      simp [numN, e3] at this
      exact ⟨this.1, by omega⟩
    rw [e3]
    simp
    rw [← hrow i h0 h1]
    constructor
    · rintro ⟨k, hk, _, hp⟩
      cases k with
      | zero => left; simp at hk; omega
      | succ k => right; exact Pw_stay (fun a b => row_mono s p.kids a b) hp h0 h1
    · rintro (h | h)
      · exact ⟨0, by simp [h], by omega, rfl⟩
      · refine ⟨p.lo.toNat, by omega, by omega, Pw_same h _⟩
  by_cases e4 : p.op = 4
  · rw [e4]; simp [allM_iff, nulAll_eq]
    constructor
    · rintro ⟨_, h⟩ q hq
      exact (ih' q hq i h0 h1).1 (h q hq)
    · intro h
      exact ⟨h1, fun q hq => (ih' q hq i h0 h1).2 (h q hq)⟩
  by_cases e5 : p.op = 5
  · rw [e5]; simp [hrow i h0 h1, h1]
  · simp only [e0, e1, e2, e3, e4, e5, false_and, or_self, false_iff]
    have b1 : (p.op == 1) = false := by simpa using e1
    have b2 : (p.op == 2) = false := by simpa using e2
    have b3 : (p.op == 3) = false := by simpa using e3
    have b4 : (p.op == 4) = false := by simpa using e4
    have b5 : (p.op == 5) = false := by simpa using e5
    simp [b1, b2, b3, b4, b5]
end Go.Proofs.YtpfhhdiipedklaaDoor
set_option maxRecDepth 20000
namespace Go.Proofs.YtpfhhdiipedklaaDoor
open Go.RowKit

theorem flatN_cons (q : Pat × Value) (l : List (Pat × Value)) : flatN (q :: l) = .int .i64 q.1.op :: .int .u64 (wd q.1.set 0) :: .int .u64 (wd q.1.set 1) :: .int .u64 (wd q.1.set 2) :: .int .u64 (wd q.1.set 3) :: .int .i64 q.1.lo :: .int .i64 q.1.hi :: q.2 :: flatN l := rfl
theorem flatN_append (a b : List (Pat × Value)) : flatN (a ++ b) = flatN a ++ flatN b := by simp [flatN]
theorem flatN_set : ∀ (L : List (Pat × Value)) (i : Nat) (_ : i < L.length) (p : Pat) (ks : Value), (((((((((flatN L).set (i * 8) (.int .i64 p.op)).set (i * 8 + 1) (.int .u64 (wd p.set 0))).set (i * 8 + 2) (.int .u64 (wd p.set 1))).set (i * 8 + 3) (.int .u64 (wd p.set 2))).set (i * 8 + 4) (.int .u64 (wd p.set 3))).set (i * 8 + 5) (.int .i64 p.lo)).set (i * 8 + 6) (.int .i64 p.hi)).set (i * 8 + 7) ks) = flatN (L.set i (p, ks))
  | q :: l, 0, _, p, ks => by rw [flatN_cons]; rfl
  | q :: l, i + 1, h, p, ks => by
    have ih := flatN_set l i (by simpa using h) p ks
    rw [List.set_cons_succ, flatN_cons, flatN_cons, ← ih]
    rw [show (i + 1) * 8 = i * 8 + 8 from by omega]
    simp only [Nat.add_assoc, List.set_cons_succ, Nat.reduceAdd]
theorem grown_trans {a b c : World} {x : Option Nat} (h : a.grownBy b x) (k : b.grownBy c x) : a.grownBy c x :=
  ⟨k.os.trans h.os, k.tape.trans h.tape, k.output.trans h.output, Nat.le_trans h.size k.size, fun i hi hx => (k.block i (Nat.lt_of_lt_of_le hi h.size) hx).trans (h.block i hi hx)⟩
/-- A node is stored at a place of the row. -/
theorem NRow.set {w : World} {base g cap n i : Nat} {L : List (Pat × Value)} (h : NRow w base (.slice (some ⟨g, 0, none⟩) n cap) L) (hn : L.length = n) (hi : i < L.length) {p : Pat} {ks : Value} (hp : Kids (mask w base (some g)) p.kids ks) :
    NRow ((((((((w.setCell ⟨g, i * 8, none⟩ (.int .i64 p.op)).setCell ⟨g, i * 8 + 1, none⟩ (.int .u64 (wd p.set 0))).setCell ⟨g, i * 8 + 2, none⟩ (.int .u64 (wd p.set 1))).setCell ⟨g, i * 8 + 3, none⟩ (.int .u64 (wd p.set 2))).setCell ⟨g, i * 8 + 4, none⟩ (.int .u64 (wd p.set 3))).setCell ⟨g, i * 8 + 5, none⟩ (.int .i64 p.lo)).setCell ⟨g, i * 8 + 6, none⟩ (.int .i64 p.hi)).setCell ⟨g, i * 8 + 7, none⟩ ks) base (.slice (some ⟨g, 0, none⟩) n cap) (L.set i (p, ks)) ∧ w.grownBy ((((((((w.setCell ⟨g, i * 8, none⟩ (.int .i64 p.op)).setCell ⟨g, i * 8 + 1, none⟩ (.int .u64 (wd p.set 0))).setCell ⟨g, i * 8 + 2, none⟩ (.int .u64 (wd p.set 1))).setCell ⟨g, i * 8 + 3, none⟩ (.int .u64 (wd p.set 2))).setCell ⟨g, i * 8 + 4, none⟩ (.int .u64 (wd p.set 3))).setCell ⟨g, i * 8 + 5, none⟩ (.int .i64 p.lo)).setCell ⟨g, i * 8 + 6, none⟩ (.int .i64 p.hi)).setCell ⟨g, i * 8 + 7, none⟩ ks) (some g) := by
  subst hn
  obtain ⟨a0, b0⟩ := h.1.stored (i * 8) (.int .i64 p.op)
  obtain ⟨a1, b1⟩ := a0.stored (i * 8 + 1) (.int .u64 (wd p.set 0))
  obtain ⟨a2, b2⟩ := a1.stored (i * 8 + 2) (.int .u64 (wd p.set 1))
  obtain ⟨a3, b3⟩ := a2.stored (i * 8 + 3) (.int .u64 (wd p.set 2))
  obtain ⟨a4, b4⟩ := a3.stored (i * 8 + 4) (.int .u64 (wd p.set 3))
  obtain ⟨a5, b5⟩ := a4.stored (i * 8 + 5) (.int .i64 p.lo)
  obtain ⟨a6, b6⟩ := a5.stored (i * 8 + 6) (.int .i64 p.hi)
  obtain ⟨a7, b7⟩ := a6.stored (i * 8 + 7) ks
  have hg : w.grownBy _ (some g) := (grown_trans (grown_trans (grown_trans (grown_trans (grown_trans (grown_trans (grown_trans b0 b1) b2) b3) b4) b5) b6) b7)
  rw [flatN_set L i hi p ks] at a7
  refine ⟨⟨by rw [List.length_set]; exact a7, fun x hx => ?_⟩, hg⟩
  rcases List.mem_or_eq_of_mem_set hx with hx | rfl
  · exact (h.2 x hx).masked hg (.inl rfl)
  · exact hp.masked hg (.inl rfl)
theorem NRow.block {w : World} {base : Nat} {v : Value} {L : List (Pat × Value)} (h : NRow w base v L) (hl : 0 < L.length) : ∃ g cap, v = .slice (some ⟨g, 0, none⟩) L.length cap ∧ base ≤ g ∧ g < w.heap.size ∧ L.length ≤ cap := by
  rcases h.1.2 with ⟨_, h0⟩ | ⟨g, cap, cur, rfl, hg, hgb, hc, _⟩
  · omega
  · exact ⟨g, cap, rfl, hg, (Array.getElem?_eq_some_iff.1 hgb).1, hc⟩
/-- The last one is cut off. -/
theorem NRow.pop {w : World} {base g cap n : Nat} {L : List (Pat × Value)} {x : Pat × Value} (h : NRow w base (.slice (some ⟨g, 0, none⟩) (n + 1) cap) (L ++ [x])) (hn : L.length = n) : NRow w base (.slice (some ⟨g, 0, none⟩) n cap) L := by
  subst hn
  have h1 := h.1
  rw [flatN_append, List.length_append] at h1
  exact ⟨ownsRow_pop (flatN_length L) h1, fun y hy => h.2 y (by simp [hy])⟩
/-- The eight cells at a place of the row. -/
theorem NRow.load {w : World} {base g cap n : Nat} {L : List (Pat × Value)} (h : NRow w base (.slice (some ⟨g, 0, none⟩) n cap) L) (hn : L.length = n) (i : Nat) (hi : i < L.length) :
    w.cell? ⟨g, i * 8, none⟩ = some (.int .i64 L[i].1.op) ∧ w.cell? ⟨g, i * 8 + 1, none⟩ = some (.int .u64 (wd L[i].1.set 0)) ∧ w.cell? ⟨g, i * 8 + 1 + 1, none⟩ = some (.int .u64 (wd L[i].1.set 1)) ∧ w.cell? ⟨g, i * 8 + 1 + 1 + 1, none⟩ = some (.int .u64 (wd L[i].1.set 2)) ∧ w.cell? ⟨g, i * 8 + 1 + 1 + 1 + 1, none⟩ = some (.int .u64 (wd L[i].1.set 3)) ∧ w.cell? ⟨g, i * 8 + 1 + 1 + 1 + 1 + 1, none⟩ = some (.int .i64 L[i].1.lo) ∧ w.cell? ⟨g, i * 8 + 1 + 1 + 1 + 1 + 1 + 1, none⟩ = some (.int .i64 L[i].1.hi) ∧ w.cell? ⟨g, i * 8 + 1 + 1 + 1 + 1 + 1 + 1 + 1, none⟩ = some L[i].2 := by
  subst hn
  have hc : ∀ j, j < 8 → w.cell? ⟨g, i * 8 + j, none⟩ = [.int .i64 (L[i].1).op, .int .u64 (wd (L[i].1).set 0), .int .u64 (wd (L[i].1).set 1), .int .u64 (wd (L[i].1).set 2), .int .u64 (wd (L[i].1).set 3), .int .i64 (L[i].1).lo, .int .i64 (L[i].1).hi, L[i].2][j]? := fun j hj => (h.1.cellAt (i * 8 + j) (by omega)).trans (flatN_at L i hi j hj)
  exact ⟨hc 0 (by omega), hc 1 (by omega), hc 2 (by omega), hc 3 (by omega), hc 4 (by omega), hc 5 (by omega), hc 6 (by omega), hc 7 (by omega)⟩
theorem NRow.free {w : World} {base g cap n : Nat} {L : List (Pat × Value)} (h : NRow w base (.slice (some ⟨g, 0, none⟩) n cap) L) (hn : L.length = n) (j : Nat) : w.frozen? ⟨g, j, none⟩ = false := by
  subst hn; exact h.1.frozenAt j
theorem Kids.oneM {w : World} {p : Pat} {ks : Value} {n lo : Nat} {x : Option Nat} (h : Kids (mask w lo x) p.kids ks) (hn : w.heap.size = n) (hl : lo ≤ n) (hx : some n ≠ x) : Kids (mask (w.alloc (.cells #[.int .i64 p.op, .int .u64 (wd p.set 0), .int .u64 (wd p.set 1), .int .u64 (wd p.set 2), .int .u64 (wd p.set 3), .int .i64 p.lo, .int .i64 p.hi, ks] 36)) lo x) [p] (.slice (some ⟨n, 0, none⟩) 1 1) := by
  subst hn
  refine .inr ⟨w.heap.size, 0, 1, rfl, ?_⟩
  unfold RowAt RowAt
  refine ⟨NodeAt.of (h.masked_below ((Below.refl _ _).alloc (Nat.le_refl _) _)) fun j hj => ?_, trivial⟩
  match j, hj with
  | 0, _ | 1, _ | 2, _ | 3, _ | 4, _ | 5, _ | 6, _ | 7, _ => exact (mask_cell _ _ _ _ _).2 ⟨⟨hl, hx⟩, by simp⟩
theorem Kids.twoM {w : World} {p q : Pat} {ks js : Value} {n lo : Nat} {x : Option Nat} (h : Kids (mask w lo x) p.kids ks) (h2 : Kids (mask w lo x) q.kids js) (hn : w.heap.size = n) (hl : lo ≤ n) (hx : some n ≠ x) : Kids (mask (w.alloc (.cells #[.int .i64 p.op, .int .u64 (wd p.set 0), .int .u64 (wd p.set 1), .int .u64 (wd p.set 2), .int .u64 (wd p.set 3), .int .i64 p.lo, .int .i64 p.hi, ks, .int .i64 q.op, .int .u64 (wd q.set 0), .int .u64 (wd q.set 1), .int .u64 (wd q.set 2), .int .u64 (wd q.set 3), .int .i64 q.lo, .int .i64 q.hi, js] 36)) lo x) [p, q] (.slice (some ⟨n, 0, none⟩) 2 2) := by
  subst hn
  refine .inr ⟨w.heap.size, 0, 2, rfl, ?_⟩
  unfold RowAt RowAt RowAt
  refine ⟨NodeAt.of (h.masked_below ((Below.refl _ _).alloc (Nat.le_refl _) _)) fun j hj => ?_, NodeAt.of (h2.masked_below ((Below.refl _ _).alloc (Nat.le_refl _) _)) fun j hj => ?_, trivial⟩
  · match j, hj with
    | 0, _ | 1, _ | 2, _ | 3, _ | 4, _ | 5, _ | 6, _ | 7, _ => exact (mask_cell _ _ _ _ _).2 ⟨⟨hl, hx⟩, by simp⟩
  · match j, hj with
    | 0, _ | 1, _ | 2, _ | 3, _ | 4, _ | 5, _ | 6, _ | 7, _ => exact (mask_cell _ _ _ _ _).2 ⟨⟨hl, hx⟩, by simp⟩
/-- What a statement 'x := Many(op, []Node{l[n-2], l[n-1]})' leaves, in whatever order. -/
def Aft (w W : World) (base g b : Nat) (P : Pat) (ks : Value) : Prop := Below w.heap.size w W ∧ Box W b #[.int .i64 P.op, .int .u64 (wd P.set 0), .int .u64 (wd P.set 1), .int .u64 (wd P.set 2), .int .u64 (wd P.set 3), .int .i64 P.lo, .int .i64 P.hi, ks] ∧ Kids (mask W base (some g)) P.kids ks
theorem below_step {w a b : World} (h : Below w.heap.size w a) (hb : Below a.heap.size a b) : Below w.heap.size w b := h.trans (hb.mono h.size)
theorem Kids.drewM {w : World} {lo : Nat} {x : Option Nat} {l : List Pat} {ks : Value} (h : Kids (mask w lo x) l ks) : Kids (mask w.drew lo x) l ks := h.masked_below (Below.refl _ _).drew
theorem aft1 {w w5 : World} {base g n : Nat} {op : Int} {x y : Pat} {xs ys : Value} (hx : Kids (mask w base (some g)) x.kids xs) (hy : Kids (mask w base (some g)) y.kids ys) (hg : g < w.heap.size) (hb : base ≤ w.heap.size)
    (h5 : Below (w.drew.alloc (.cells #[.int .i64 x.op, .int .u64 (wd x.set 0), .int .u64 (wd x.set 1), .int .u64 (wd x.set 2), .int .u64 (wd x.set 3), .int .i64 x.lo, .int .i64 x.hi, xs, .int .i64 y.op, .int .u64 (wd y.set 0), .int .u64 (wd y.set 1), .int .u64 (wd y.set 2), .int .u64 (wd y.set 3), .int .i64 y.lo, .int .i64 y.hi, ys] 36)).heap.size (w.drew.alloc (.cells #[.int .i64 x.op, .int .u64 (wd x.set 0), .int .u64 (wd x.set 1), .int .u64 (wd x.set 2), .int .u64 (wd x.set 3), .int .i64 x.lo, .int .i64 x.hi, xs, .int .i64 y.op, .int .u64 (wd y.set 0), .int .u64 (wd y.set 1), .int .u64 (wd y.set 2), .int .u64 (wd y.set 3), .int .i64 y.lo, .int .i64 y.hi, ys] 36)) w5) (hn : w.heap.size = n) :
    Aft w (w5.alloc (.cells #[.int .i64 (Pat.mk op 0 0 0 [x, y]).op, .int .u64 (wd (Pat.mk op 0 0 0 [x, y]).set 0), .int .u64 (wd (Pat.mk op 0 0 0 [x, y]).set 1), .int .u64 (wd (Pat.mk op 0 0 0 [x, y]).set 2), .int .u64 (wd (Pat.mk op 0 0 0 [x, y]).set 3), .int .i64 (Pat.mk op 0 0 0 [x, y]).lo, .int .i64 (Pat.mk op 0 0 0 [x, y]).hi, .slice (some ⟨n, 0, none⟩) 2 2] 36)) base g w5.heap.size (Pat.mk op 0 0 0 [x, y]) (.slice (some ⟨n, 0, none⟩) 2 2) := by
  have hk := Kids.twoM hx.drewM hy.drewM hn (by omega) (fun e => by cases e; omega)
  have hb1 : Below w.heap.size w (w.drew.alloc (.cells #[.int .i64 x.op, .int .u64 (wd x.set 0), .int .u64 (wd x.set 1), .int .u64 (wd x.set 2), .int .u64 (wd x.set 3), .int .i64 x.lo, .int .i64 x.hi, xs, .int .i64 y.op, .int .u64 (wd y.set 0), .int .u64 (wd y.set 1), .int .u64 (wd y.set 2), .int .u64 (wd y.set 3), .int .i64 y.lo, .int .i64 y.hi, ys] 36)) := ((Below.refl _ _).drew).alloc (Nat.le_refl _) _
  exact ⟨below_step (below_step hb1 h5) ((Below.refl _ _).alloc (Nat.le_refl _) _), Box.new _ _ rfl, (hk.masked_below h5).masked_below ((Below.refl _ _).alloc (Nat.le_refl _) _)⟩
/-- In the second order the variable's block lies behind the slice's, in the third ahead of it: their kids avoid it. -/
theorem aft2 {w w5 : World} {base g n b : Nat} {op : Int} {x y : Pat} {xs ys : Value} (hx : Kids (mask w base (some g)) x.kids xs) (hy : Kids (mask w base (some g)) y.kids ys) (hg : g < w.heap.size) (hb : base ≤ w.heap.size)
    (h5 : Below ((w.drew.alloc (.cells #[.int .i64 x.op, .int .u64 (wd x.set 0), .int .u64 (wd x.set 1), .int .u64 (wd x.set 2), .int .u64 (wd x.set 3), .int .i64 x.lo, .int .i64 x.hi, xs, .int .i64 y.op, .int .u64 (wd y.set 0), .int .u64 (wd y.set 1), .int .u64 (wd y.set 2), .int .u64 (wd y.set 3), .int .i64 y.lo, .int .i64 y.hi, ys] 36)).alloc (.cells #[.int .i64 0, .int .u64 0, .int .u64 0, .int .u64 0, .int .u64 0, .int .i64 0, .int .i64 0, .slice none 0 0] 36)).heap.size ((w.drew.alloc (.cells #[.int .i64 x.op, .int .u64 (wd x.set 0), .int .u64 (wd x.set 1), .int .u64 (wd x.set 2), .int .u64 (wd x.set 3), .int .i64 x.lo, .int .i64 x.hi, xs, .int .i64 y.op, .int .u64 (wd y.set 0), .int .u64 (wd y.set 1), .int .u64 (wd y.set 2), .int .u64 (wd y.set 3), .int .i64 y.lo, .int .i64 y.hi, ys] 36)).alloc (.cells #[.int .i64 0, .int .u64 0, .int .u64 0, .int .u64 0, .int .u64 0, .int .i64 0, .int .i64 0, .slice none 0 0] 36)) w5) (hn : w.heap.size = n) (hbn : b = n + 1) :
    Aft w ((((((((w5.setCell ⟨b, 0, none⟩ (.int .i64 (Pat.mk op 0 0 0 [x, y]).op)).setCell ⟨b, 1, none⟩ (.int .u64 (wd (Pat.mk op 0 0 0 [x, y]).set 0))).setCell ⟨b, 2, none⟩ (.int .u64 (wd (Pat.mk op 0 0 0 [x, y]).set 1))).setCell ⟨b, 3, none⟩ (.int .u64 (wd (Pat.mk op 0 0 0 [x, y]).set 2))).setCell ⟨b, 4, none⟩ (.int .u64 (wd (Pat.mk op 0 0 0 [x, y]).set 3))).setCell ⟨b, 5, none⟩ (.int .i64 (Pat.mk op 0 0 0 [x, y]).lo)).setCell ⟨b, 6, none⟩ (.int .i64 (Pat.mk op 0 0 0 [x, y]).hi)).setCell ⟨b, 7, none⟩ (.slice (some ⟨n, 0, none⟩) 2 2)) base g b (Pat.mk op 0 0 0 [x, y]) (.slice (some ⟨n, 0, none⟩) 2 2) := by
  subst hbn
  have hk := Kids.twoM hx.drewM hy.drewM hn (by omega) (fun e => by cases e; omega)
  have hb1 : Below w.heap.size w (w.drew.alloc (.cells #[.int .i64 x.op, .int .u64 (wd x.set 0), .int .u64 (wd x.set 1), .int .u64 (wd x.set 2), .int .u64 (wd x.set 3), .int .i64 x.lo, .int .i64 x.hi, xs, .int .i64 y.op, .int .u64 (wd y.set 0), .int .u64 (wd y.set 1), .int .u64 (wd y.set 2), .int .u64 (wd y.set 3), .int .i64 y.lo, .int .i64 y.hi, ys] 36)) := ((Below.refl _ _).drew).alloc (Nat.le_refl _) _
  have hb2 := below_step hb1 ((Below.refl _ _).alloc (Nat.le_refl _) (.cells #[.int .i64 0, .int .u64 0, .int .u64 0, .int .u64 0, .int .u64 0, .int .i64 0, .int .i64 0, .slice none 0 0] 36))
  have hs1 : (w.drew.alloc (.cells #[.int .i64 x.op, .int .u64 (wd x.set 0), .int .u64 (wd x.set 1), .int .u64 (wd x.set 2), .int .u64 (wd x.set 3), .int .i64 x.lo, .int .i64 x.hi, xs, .int .i64 y.op, .int .u64 (wd y.set 0), .int .u64 (wd y.set 1), .int .u64 (wd y.set 2), .int .u64 (wd y.set 3), .int .i64 y.lo, .int .i64 y.hi, ys] 36)).heap.size = n + 1 := by rw [World.size_alloc]; show w.heap.size + 1 = n + 1; omega
  refine ⟨below_set8 (below_step hb2 h5) (by omega) _ _ _ _ _ _ _ _, ((Box.new _ _ hs1).below h5).store _ _ _ _ _ _ _ _, ?_⟩
  refine hk.keep fun c h1 h2 h3 => ⟨?_, h1, h2⟩
  rw [heap_set8 (by omega)]
  exact (h5.block c (by simp; omega)).trans (Below.heap_alloc _ _ _ h3)
theorem aft3 {w w5 : World} {base g n b : Nat} {op : Int} {x y : Pat} {xs ys : Value} (hx : Kids (mask w base (some g)) x.kids xs) (hy : Kids (mask w base (some g)) y.kids ys) (hg : g < w.heap.size) (hb : base ≤ w.heap.size)
    (h5 : Below ((w.drew.alloc (.cells #[.int .i64 0, .int .u64 0, .int .u64 0, .int .u64 0, .int .u64 0, .int .i64 0, .int .i64 0, .slice none 0 0] 36)).alloc (.cells #[.int .i64 x.op, .int .u64 (wd x.set 0), .int .u64 (wd x.set 1), .int .u64 (wd x.set 2), .int .u64 (wd x.set 3), .int .i64 x.lo, .int .i64 x.hi, xs, .int .i64 y.op, .int .u64 (wd y.set 0), .int .u64 (wd y.set 1), .int .u64 (wd y.set 2), .int .u64 (wd y.set 3), .int .i64 y.lo, .int .i64 y.hi, ys] 36)).heap.size ((w.drew.alloc (.cells #[.int .i64 0, .int .u64 0, .int .u64 0, .int .u64 0, .int .u64 0, .int .i64 0, .int .i64 0, .slice none 0 0] 36)).alloc (.cells #[.int .i64 x.op, .int .u64 (wd x.set 0), .int .u64 (wd x.set 1), .int .u64 (wd x.set 2), .int .u64 (wd x.set 3), .int .i64 x.lo, .int .i64 x.hi, xs, .int .i64 y.op, .int .u64 (wd y.set 0), .int .u64 (wd y.set 1), .int .u64 (wd y.set 2), .int .u64 (wd y.set 3), .int .i64 y.lo, .int .i64 y.hi, ys] 36)) w5) (hn : w.heap.size + 1 = n) (hbn : b = w.heap.size) :
    Aft w ((((((((w5.setCell ⟨b, 0, none⟩ (.int .i64 (Pat.mk op 0 0 0 [x, y]).op)).setCell ⟨b, 1, none⟩ (.int .u64 (wd (Pat.mk op 0 0 0 [x, y]).set 0))).setCell ⟨b, 2, none⟩ (.int .u64 (wd (Pat.mk op 0 0 0 [x, y]).set 1))).setCell ⟨b, 3, none⟩ (.int .u64 (wd (Pat.mk op 0 0 0 [x, y]).set 2))).setCell ⟨b, 4, none⟩ (.int .u64 (wd (Pat.mk op 0 0 0 [x, y]).set 3))).setCell ⟨b, 5, none⟩ (.int .i64 (Pat.mk op 0 0 0 [x, y]).lo)).setCell ⟨b, 6, none⟩ (.int .i64 (Pat.mk op 0 0 0 [x, y]).hi)).setCell ⟨b, 7, none⟩ (.slice (some ⟨n, 0, none⟩) 2 2)) base g b (Pat.mk op 0 0 0 [x, y]) (.slice (some ⟨n, 0, none⟩) 2 2) := by
  subst hbn
  have hal : Below w.drew.heap.size w.drew (w.drew.alloc (.cells #[.int .i64 0, .int .u64 0, .int .u64 0, .int .u64 0, .int .u64 0, .int .i64 0, .int .i64 0, .slice none 0 0] 36)) := (Below.refl _ _).alloc (Nat.le_refl _) _
  have hs1 : (w.drew.alloc (.cells #[.int .i64 0, .int .u64 0, .int .u64 0, .int .u64 0, .int .u64 0, .int .i64 0, .int .i64 0, .slice none 0 0] 36)).heap.size = n := by rw [World.size_alloc]; exact hn
  have hb1 : Below w.heap.size w (w.drew.alloc (.cells #[.int .i64 0, .int .u64 0, .int .u64 0, .int .u64 0, .int .u64 0, .int .i64 0, .int .i64 0, .slice none 0 0] 36)) := ((Below.refl _ _).drew).alloc (Nat.le_refl _) _
  have hb2 := below_step hb1 ((Below.refl _ _).alloc (Nat.le_refl _) (.cells #[.int .i64 x.op, .int .u64 (wd x.set 0), .int .u64 (wd x.set 1), .int .u64 (wd x.set 2), .int .u64 (wd x.set 3), .int .i64 x.lo, .int .i64 x.hi, xs, .int .i64 y.op, .int .u64 (wd y.set 0), .int .u64 (wd y.set 1), .int .u64 (wd y.set 2), .int .u64 (wd y.set 3), .int .i64 y.lo, .int .i64 y.hi, ys] 36))
  refine ⟨below_set8 (below_step hb2 h5) (by omega) _ _ _ _ _ _ _ _, (((Box.new w.drew _ rfl).alloc _).below h5).store _ _ _ _ _ _ _ _, ?_⟩
  -- the kids of both lie below w's end, the slice's block is n
  have hlow : ∀ {p : Pat} {q : Value}, Kids (mask w base (some g)) p.kids q → Kids (mask ((((((((w5.setCell ⟨w.heap.size, 0, none⟩ (.int .i64 (Pat.mk op 0 0 0 [x, y]).op)).setCell ⟨w.heap.size, 1, none⟩ (.int .u64 (wd (Pat.mk op 0 0 0 [x, y]).set 0))).setCell ⟨w.heap.size, 2, none⟩ (.int .u64 (wd (Pat.mk op 0 0 0 [x, y]).set 1))).setCell ⟨w.heap.size, 3, none⟩ (.int .u64 (wd (Pat.mk op 0 0 0 [x, y]).set 2))).setCell ⟨w.heap.size, 4, none⟩ (.int .u64 (wd (Pat.mk op 0 0 0 [x, y]).set 3))).setCell ⟨w.heap.size, 5, none⟩ (.int .i64 (Pat.mk op 0 0 0 [x, y]).lo)).setCell ⟨w.heap.size, 6, none⟩ (.int .i64 (Pat.mk op 0 0 0 [x, y]).hi)).setCell ⟨w.heap.size, 7, none⟩ (.slice (some ⟨n, 0, none⟩) 2 2)) base (some g)) p.kids q := fun h => h.keep fun c h1 h2 h3 => ⟨by
    rw [heap_set8 (by omega)]
    exact (h5.block c (by first | (rw [World.size_alloc, World.size_alloc]; show c < w.heap.size + 1 + 1; omega) | (rw [World.size_alloc]; show c < w.heap.size + 1; omega))).trans ((Below.heap_alloc _ _ _ (by first | (rw [World.size_alloc, World.size_alloc]; show c < w.heap.size + 1 + 1; omega) | (rw [World.size_alloc]; show c < w.heap.size + 1; omega))).trans (Below.heap_alloc _ _ _ h3)), h1, h2⟩
  have hcell : Box w5 n #[.int .i64 x.op, .int .u64 (wd x.set 0), .int .u64 (wd x.set 1), .int .u64 (wd x.set 2), .int .u64 (wd x.set 3), .int .i64 x.lo, .int .i64 x.hi, xs, .int .i64 y.op, .int .u64 (wd y.set 0), .int .u64 (wd y.set 1), .int .u64 (wd y.set 2), .int .u64 (wd y.set 3), .int .i64 y.lo, .int .i64 y.hi, ys] := (Box.new (w.drew.alloc (.cells #[.int .i64 0, .int .u64 0, .int .u64 0, .int .u64 0, .int .u64 0, .int .i64 0, .int .i64 0, .slice none 0 0] 36)) _ hs1).below h5
  have hcell2 := hcell.other8 (b := w.heap.size) (by omega) (.int .i64 (Pat.mk op 0 0 0 [x, y]).op) (.int .u64 (wd (Pat.mk op 0 0 0 [x, y]).set 0)) (.int .u64 (wd (Pat.mk op 0 0 0 [x, y]).set 1)) (.int .u64 (wd (Pat.mk op 0 0 0 [x, y]).set 2)) (.int .u64 (wd (Pat.mk op 0 0 0 [x, y]).set 3)) (.int .i64 (Pat.mk op 0 0 0 [x, y]).lo) (.int .i64 (Pat.mk op 0 0 0 [x, y]).hi) (.slice (some ⟨n, 0, none⟩) 2 2)
  have hng : some n ≠ some g := fun e => by have := Option.some.inj e; omega
  refine .inr ⟨n, 0, 2, rfl, ?_⟩
  show RowAt _ [x, y] n 0
  unfold RowAt RowAt RowAt
  refine ⟨NodeAt.of (hlow hx) fun j hj => ?_, NodeAt.of (hlow hy) fun j hj => ?_, trivial⟩
  · match j, hj with
    | 0, _ | 1, _ | 2, _ | 3, _ | 4, _ | 5, _ | 6, _ | 7, _ => exact (mask_cell _ _ _ _ _).2 ⟨⟨by show base ≤ n; omega, hng⟩, hcell2.cell _⟩
  · match j, hj with
    | 0, _ | 1, _ | 2, _ | 3, _ | 4, _ | 5, _ | 6, _ | 7, _ => exact (mask_cell _ _ _ _ _).2 ⟨⟨by show base ≤ n; omega, hng⟩, hcell2.cell _⟩
theorem use {P Q : Prop} (h : P) (k : P → Q) : Q := k h
theorem aft1h {w w5 : World} {base g : Nat} {x y : Pat} {xs ys : Value} (op : Int) (hx : Kids (mask w base (some g)) x.kids xs) (hy : Kids (mask w base (some g)) y.kids ys) (hg : g < w.heap.size) (hb : base ≤ w.heap.size) (h5 : Below (w.alloc (.cells #[.int .i64 x.op, .int .u64 (wd x.set 0), .int .u64 (wd x.set 1), .int .u64 (wd x.set 2), .int .u64 (wd x.set 3), .int .i64 x.lo, .int .i64 x.hi, xs, .int .i64 y.op, .int .u64 (wd y.set 0), .int .u64 (wd y.set 1), .int .u64 (wd y.set 2), .int .u64 (wd y.set 3), .int .i64 y.lo, .int .i64 y.hi, ys] 36)).drew.heap.size (w.alloc (.cells #[.int .i64 x.op, .int .u64 (wd x.set 0), .int .u64 (wd x.set 1), .int .u64 (wd x.set 2), .int .u64 (wd x.set 3), .int .i64 x.lo, .int .i64 x.hi, xs, .int .i64 y.op, .int .u64 (wd y.set 0), .int .u64 (wd y.set 1), .int .u64 (wd y.set 2), .int .u64 (wd y.set 3), .int .i64 y.lo, .int .i64 y.hi, ys] 36)).drew w5) :
    Aft w (w5.alloc (.cells #[.int .i64 (Pat.mk op 0 0 0 [x, y]).op, .int .u64 (wd (Pat.mk op 0 0 0 [x, y]).set 0), .int .u64 (wd (Pat.mk op 0 0 0 [x, y]).set 1), .int .u64 (wd (Pat.mk op 0 0 0 [x, y]).set 2), .int .u64 (wd (Pat.mk op 0 0 0 [x, y]).set 3), .int .i64 (Pat.mk op 0 0 0 [x, y]).lo, .int .i64 (Pat.mk op 0 0 0 [x, y]).hi, .slice (some ⟨w.heap.size, 0, none⟩) 2 2] 36)) base g w5.heap.size (Pat.mk op 0 0 0 [x, y]) (.slice (some ⟨w.heap.size, 0, none⟩) 2 2) := by
  have h6 : Below (w.drew.alloc (.cells #[.int .i64 x.op, .int .u64 (wd x.set 0), .int .u64 (wd x.set 1), .int .u64 (wd x.set 2), .int .u64 (wd x.set 3), .int .i64 x.lo, .int .i64 x.hi, xs, .int .i64 y.op, .int .u64 (wd y.set 0), .int .u64 (wd y.set 1), .int .u64 (wd y.set 2), .int .u64 (wd y.set 3), .int .i64 y.lo, .int .i64 y.hi, ys] 36)).heap.size (w.drew.alloc (.cells #[.int .i64 x.op, .int .u64 (wd x.set 0), .int .u64 (wd x.set 1), .int .u64 (wd x.set 2), .int .u64 (wd x.set 3), .int .i64 x.lo, .int .i64 x.hi, xs, .int .i64 y.op, .int .u64 (wd y.set 0), .int .u64 (wd y.set 1), .int .u64 (wd y.set 2), .int .u64 (wd y.set 3), .int .i64 y.lo, .int .i64 y.hi, ys] 36)) w5 := h5
  exact aft1 hx hy hg hb h6 rfl
theorem aft2h {w w5 : World} {base g : Nat} {x y : Pat} {xs ys : Value} (op : Int) (hx : Kids (mask w base (some g)) x.kids xs) (hy : Kids (mask w base (some g)) y.kids ys) (hg : g < w.heap.size) (hb : base ≤ w.heap.size) (h5 : Below ((w.alloc (.cells #[.int .i64 x.op, .int .u64 (wd x.set 0), .int .u64 (wd x.set 1), .int .u64 (wd x.set 2), .int .u64 (wd x.set 3), .int .i64 x.lo, .int .i64 x.hi, xs, .int .i64 y.op, .int .u64 (wd y.set 0), .int .u64 (wd y.set 1), .int .u64 (wd y.set 2), .int .u64 (wd y.set 3), .int .i64 y.lo, .int .i64 y.hi, ys] 36)).alloc (.cells #[.int .i64 0, .int .u64 0, .int .u64 0, .int .u64 0, .int .u64 0, .int .i64 0, .int .i64 0, .slice none 0 0] 36)).drew.heap.size ((w.alloc (.cells #[.int .i64 x.op, .int .u64 (wd x.set 0), .int .u64 (wd x.set 1), .int .u64 (wd x.set 2), .int .u64 (wd x.set 3), .int .i64 x.lo, .int .i64 x.hi, xs, .int .i64 y.op, .int .u64 (wd y.set 0), .int .u64 (wd y.set 1), .int .u64 (wd y.set 2), .int .u64 (wd y.set 3), .int .i64 y.lo, .int .i64 y.hi, ys] 36)).alloc (.cells #[.int .i64 0, .int .u64 0, .int .u64 0, .int .u64 0, .int .u64 0, .int .i64 0, .int .i64 0, .slice none 0 0] 36)).drew w5) :
    Aft w ((((((((w5.setCell ⟨w.heap.size + 1, 0, none⟩ (.int .i64 (Pat.mk op 0 0 0 [x, y]).op)).setCell ⟨w.heap.size + 1, 1, none⟩ (.int .u64 (wd (Pat.mk op 0 0 0 [x, y]).set 0))).setCell ⟨w.heap.size + 1, 2, none⟩ (.int .u64 (wd (Pat.mk op 0 0 0 [x, y]).set 1))).setCell ⟨w.heap.size + 1, 3, none⟩ (.int .u64 (wd (Pat.mk op 0 0 0 [x, y]).set 2))).setCell ⟨w.heap.size + 1, 4, none⟩ (.int .u64 (wd (Pat.mk op 0 0 0 [x, y]).set 3))).setCell ⟨w.heap.size + 1, 5, none⟩ (.int .i64 (Pat.mk op 0 0 0 [x, y]).lo)).setCell ⟨w.heap.size + 1, 6, none⟩ (.int .i64 (Pat.mk op 0 0 0 [x, y]).hi)).setCell ⟨w.heap.size + 1, 7, none⟩ (.slice (some ⟨w.heap.size, 0, none⟩) 2 2)) base g (w.heap.size + 1) (Pat.mk op 0 0 0 [x, y]) (.slice (some ⟨w.heap.size, 0, none⟩) 2 2) ∧ Box w5 (w.heap.size + 1) #[.int .i64 0, .int .u64 0, .int .u64 0, .int .u64 0, .int .u64 0, .int .i64 0, .int .i64 0, .slice none 0 0] := by
  have h6 : Below ((w.drew.alloc (.cells #[.int .i64 x.op, .int .u64 (wd x.set 0), .int .u64 (wd x.set 1), .int .u64 (wd x.set 2), .int .u64 (wd x.set 3), .int .i64 x.lo, .int .i64 x.hi, xs, .int .i64 y.op, .int .u64 (wd y.set 0), .int .u64 (wd y.set 1), .int .u64 (wd y.set 2), .int .u64 (wd y.set 3), .int .i64 y.lo, .int .i64 y.hi, ys] 36)).alloc (.cells #[.int .i64 0, .int .u64 0, .int .u64 0, .int .u64 0, .int .u64 0, .int .i64 0, .int .i64 0, .slice none 0 0] 36)).heap.size ((w.drew.alloc (.cells #[.int .i64 x.op, .int .u64 (wd x.set 0), .int .u64 (wd x.set 1), .int .u64 (wd x.set 2), .int .u64 (wd x.set 3), .int .i64 x.lo, .int .i64 x.hi, xs, .int .i64 y.op, .int .u64 (wd y.set 0), .int .u64 (wd y.set 1), .int .u64 (wd y.set 2), .int .u64 (wd y.set 3), .int .i64 y.lo, .int .i64 y.hi, ys] 36)).alloc (.cells #[.int .i64 0, .int .u64 0, .int .u64 0, .int .u64 0, .int .u64 0, .int .i64 0, .int .i64 0, .slice none 0 0] 36)) w5 := h5
  exact ⟨aft2 hx hy hg hb h6 rfl rfl, (Box.new (w.drew.alloc (.cells #[.int .i64 x.op, .int .u64 (wd x.set 0), .int .u64 (wd x.set 1), .int .u64 (wd x.set 2), .int .u64 (wd x.set 3), .int .i64 x.lo, .int .i64 x.hi, xs, .int .i64 y.op, .int .u64 (wd y.set 0), .int .u64 (wd y.set 1), .int .u64 (wd y.set 2), .int .u64 (wd y.set 3), .int .i64 y.lo, .int .i64 y.hi, ys] 36)) _ (World.size_alloc _ _)).below h6⟩
theorem aft3h {w w5 : World} {base g : Nat} {x y : Pat} {xs ys : Value} (op : Int) (hx : Kids (mask w base (some g)) x.kids xs) (hy : Kids (mask w base (some g)) y.kids ys) (hg : g < w.heap.size) (hb : base ≤ w.heap.size) (h5 : Below ((w.alloc (.cells #[.int .i64 0, .int .u64 0, .int .u64 0, .int .u64 0, .int .u64 0, .int .i64 0, .int .i64 0, .slice none 0 0] 36)).alloc (.cells #[.int .i64 x.op, .int .u64 (wd x.set 0), .int .u64 (wd x.set 1), .int .u64 (wd x.set 2), .int .u64 (wd x.set 3), .int .i64 x.lo, .int .i64 x.hi, xs, .int .i64 y.op, .int .u64 (wd y.set 0), .int .u64 (wd y.set 1), .int .u64 (wd y.set 2), .int .u64 (wd y.set 3), .int .i64 y.lo, .int .i64 y.hi, ys] 36)).drew.heap.size ((w.alloc (.cells #[.int .i64 0, .int .u64 0, .int .u64 0, .int .u64 0, .int .u64 0, .int .i64 0, .int .i64 0, .slice none 0 0] 36)).alloc (.cells #[.int .i64 x.op, .int .u64 (wd x.set 0), .int .u64 (wd x.set 1), .int .u64 (wd x.set 2), .int .u64 (wd x.set 3), .int .i64 x.lo, .int .i64 x.hi, xs, .int .i64 y.op, .int .u64 (wd y.set 0), .int .u64 (wd y.set 1), .int .u64 (wd y.set 2), .int .u64 (wd y.set 3), .int .i64 y.lo, .int .i64 y.hi, ys] 36)).drew w5) :
    Aft w ((((((((w5.setCell ⟨w.heap.size, 0, none⟩ (.int .i64 (Pat.mk op 0 0 0 [x, y]).op)).setCell ⟨w.heap.size, 1, none⟩ (.int .u64 (wd (Pat.mk op 0 0 0 [x, y]).set 0))).setCell ⟨w.heap.size, 2, none⟩ (.int .u64 (wd (Pat.mk op 0 0 0 [x, y]).set 1))).setCell ⟨w.heap.size, 3, none⟩ (.int .u64 (wd (Pat.mk op 0 0 0 [x, y]).set 2))).setCell ⟨w.heap.size, 4, none⟩ (.int .u64 (wd (Pat.mk op 0 0 0 [x, y]).set 3))).setCell ⟨w.heap.size, 5, none⟩ (.int .i64 (Pat.mk op 0 0 0 [x, y]).lo)).setCell ⟨w.heap.size, 6, none⟩ (.int .i64 (Pat.mk op 0 0 0 [x, y]).hi)).setCell ⟨w.heap.size, 7, none⟩ (.slice (some ⟨w.heap.size + 1, 0, none⟩) 2 2)) base g w.heap.size (Pat.mk op 0 0 0 [x, y]) (.slice (some ⟨w.heap.size + 1, 0, none⟩) 2 2) ∧ Box w5 w.heap.size #[.int .i64 0, .int .u64 0, .int .u64 0, .int .u64 0, .int .u64 0, .int .i64 0, .int .i64 0, .slice none 0 0] := by
  have h6 : Below ((w.drew.alloc (.cells #[.int .i64 0, .int .u64 0, .int .u64 0, .int .u64 0, .int .u64 0, .int .i64 0, .int .i64 0, .slice none 0 0] 36)).alloc (.cells #[.int .i64 x.op, .int .u64 (wd x.set 0), .int .u64 (wd x.set 1), .int .u64 (wd x.set 2), .int .u64 (wd x.set 3), .int .i64 x.lo, .int .i64 x.hi, xs, .int .i64 y.op, .int .u64 (wd y.set 0), .int .u64 (wd y.set 1), .int .u64 (wd y.set 2), .int .u64 (wd y.set 3), .int .i64 y.lo, .int .i64 y.hi, ys] 36)).heap.size ((w.drew.alloc (.cells #[.int .i64 0, .int .u64 0, .int .u64 0, .int .u64 0, .int .u64 0, .int .i64 0, .int .i64 0, .slice none 0 0] 36)).alloc (.cells #[.int .i64 x.op, .int .u64 (wd x.set 0), .int .u64 (wd x.set 1), .int .u64 (wd x.set 2), .int .u64 (wd x.set 3), .int .i64 x.lo, .int .i64 x.hi, xs, .int .i64 y.op, .int .u64 (wd y.set 0), .int .u64 (wd y.set 1), .int .u64 (wd y.set 2), .int .u64 (wd y.set 3), .int .i64 y.lo, .int .i64 y.hi, ys] 36)) w5 := h5
  exact ⟨aft3 hx hy hg hb h6 rfl rfl, ((Box.new w.drew _ rfl).alloc _).below h6⟩
end Go.Proofs.YtpfhhdiipedklaaDoor
set_option maxRecDepth 20000
namespace Go.Proofs.YtpfhhdiipedklaaDoor
open Go.RowKit

theorem okN_iff (op lo hi : Int) (n : Nat) : okN op lo hi n = true ↔ (0 ≤ op ∧ op ≤ 5 ∧ (op = 0 → n = 0) ∧ (op = 3 ∨ op = 5 → n = 1) ∧ 0 ≤ lo ∧ lo ≤ 32 ∧ hi ≤ 32 ∧ (0 ≤ hi → lo ≤ hi)) := decide_eq_true_iff
theorem okN_not (op lo hi : Int) (n : Nat) (h : ¬ (0 ≤ op ∧ op ≤ 5 ∧ (op = 0 → n = 0) ∧ (op = 3 ∨ op = 5 → n = 1) ∧ 0 ≤ lo ∧ lo ≤ 32 ∧ hi ≤ 32 ∧ (0 ≤ hi → lo ≤ hi))) : okN op lo hi n = false := decide_eq_false h
end Go.Proofs.YtpfhhdiipedklaaDoor
set_option maxRecDepth 20000
namespace Go.Proofs.YtpfhhdiipedklaaDoor
open Go.RowKit

theorem row_one_fun (s : ByteArray) (p : Pat) : rowM s [p] = p.M s := by
  funext i j; exact propext (rowM_one s p i j)
theorem some_cat (s : ByteArray) (p : Pat) (i j : Int) : (Pat.mk 3 0 1 (-1) [p]).M s i j ↔ (Pat.mk 1 0 0 0 [p, Pat.mk 3 0 0 (-1) [p]]).M s i j := by
  rw [M_rep rfl, M_cat rfl]
  show (∃ k : Nat, (1 : Int) ≤ k ∧ ((-1 : Int) < 0 ∨ (k : Int) ≤ -1) ∧ Pw (rowM s [p]) k i j) ↔ rowM s [p, Pat.mk 3 0 0 (-1) [p]] i j
  rw [rowM_cons]
  simp only [rowM_one, M_rep (p := Pat.mk 3 0 0 (-1) [p]) rfl]
  show _ ↔ ∃ m, p.M s i m ∧ ∃ k : Nat, (0 : Int) ≤ k ∧ ((-1 : Int) < 0 ∨ (k : Int) ≤ -1) ∧ Pw (rowM s [p]) k m j
  rw [row_one_fun]
  constructor
  · rintro ⟨k, h1, _, h3⟩
    cases k with
    | zero => omega
    | succ k =>
      obtain ⟨m, h4, h5⟩ := h3
      exact ⟨m, h4, k, by omega, .inl (by omega), h5⟩
  · rintro ⟨m, h4, k, _, _, h5⟩
    exact ⟨k + 1, by omega, .inl (by omega), m, h4, h5⟩
theorem twice_cat (s : ByteArray) (p : Pat) (i j : Int) : (Pat.mk 3 0 2 2 [p]).M s i j ↔ (Pat.mk 1 0 0 0 [p, p]).M s i j := by
  rw [M_rep rfl, M_cat rfl]
  show (∃ k : Nat, (2 : Int) ≤ k ∧ ((2 : Int) < 0 ∨ (k : Int) ≤ 2) ∧ Pw (rowM s [p]) k i j) ↔ rowM s [p, p] i j
  rw [rowM_cons, row_one_fun]
  constructor
  · rintro ⟨k, h1, h2, h3⟩
    obtain rfl : k = 2 := by omega
    obtain ⟨m, h4, m2, h5, h6⟩ := h3
    have h7 : m2 = j := h6
    exact ⟨m, h4, h7 ▸ h5⟩
  · rintro ⟨m, h4, h5⟩
    exact ⟨2, by omega, .inr (by omega), m, h4, j, h5, rfl⟩
theorem once_may (s : ByteArray) (p : Pat) (i j : Int) : (Pat.mk 3 0 0 1 [p]).M s i j ↔ i = j ∨ p.M s i j := by
  rw [M_rep rfl]
  show (∃ k : Nat, (0 : Int) ≤ k ∧ ((1 : Int) < 0 ∨ (k : Int) ≤ 1) ∧ Pw (rowM s [p]) k i j) ↔ _
  rw [row_one_fun]
  constructor
  · rintro ⟨k, h1, h2, h3⟩
    have : k = 0 ∨ k = 1 := by omega
    rcases this with rfl | rfl
    · exact .inl h3
    · exact .inr ((Pw_one _ _ _).1 h3)
  · rintro (h | h)
    · exact ⟨0, by omega, .inr (by omega), h⟩
    · exact ⟨1, by omega, .inr (by omega), (Pw_one _ _ _).2 h⟩
theorem any_empty (s : ByteArray) (p : Pat) (i : Int) : (Pat.mk 3 0 0 (-1) [p]).M s i i := by
  rw [M_rep rfl]
  exact ⟨0, Int.le_refl _, .inl (show (-1 : Int) < 0 by decide), rfl⟩
end Go.Proofs.YtpfhhdiipedklaaDoor
