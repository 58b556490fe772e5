/- What a pattern is asked for, by definition. -/
import Derived.Test.YtnjcefjcpmjdiaaD2
set_option maxRecDepth 20000
namespace Go.Proofs.Ytnjcefjcpmjdiaa
open Go.RowKit

mutual
/-- Does it match the empty text (the document's reference)? -/
def Pat.rnul : Pat → Bool
  | .mk op _ lo _ kids => bif op == 1 then rnulAll kids else bif op == 4 then rnulAll kids else bif op == 2 then rnulOne kids else bif op == 3 then (lo == 0 || rnulOne kids) else bif op == 5 then !rnulOne kids else false
def rnulAll : List Pat → Bool
  | [] => true
  | p :: ps => p.rnul && rnulAll ps
def rnulOne : List Pat → Bool
  | [] => false
  | p :: ps => p.rnul || rnulOne ps
end
mutual
/-- .. and as the program tells it. -/
def Pat.nul : Pat → Bool
  | .mk op _ lo _ kids => bif op == 1 then nulAll kids else bif op == 4 then nulAll kids else bif op == 2 then nulOne kids else bif op == 3 then (lo == 0 || nulAll kids) else bif op == 5 then !nulAll kids else false
def nulAll : List Pat → Bool
  | [] => true
  | p :: ps => p.nul && nulAll ps
def nulOne : List Pat → Bool
  | [] => false
  | p :: ps => p.nul || nulOne ps
end
mutual
/-- The bytes that it names. -/
def Pat.bytes : Pat → BitVec 256
  | .mk op s _ _ kids => (bif op == 0 then s else 0) ||| bytesL kids
def bytesL : List Pat → BitVec 256
  | [] => 0
  | p :: ps => p.bytes ||| bytesL ps
end
mutual
/-- Are they the same? -/
def Pat.same : Pat → Pat → Bool
  | .mk op s lo hi kids, .mk op' s' lo' hi' kids' => op == op' && (decide (s = s') && (lo == lo' && (hi == hi' && sameL kids kids')))
def sameL : List Pat → List Pat → Bool
  | [], [] => true
  | p :: ps, q :: qs => p.same q && sameL ps qs
  | _, _ => false
end
/-- May a node be, but for its kids and its depth? -/
def okN (op lo hi : Int) (n : Nat) : Bool := decide (0 ≤ op ∧ op ≤ 5 ∧ (op = 0 → n = 0) ∧ (op = 3 ∨ op = 5 → n = 1) ∧ 0 ≤ lo ∧ lo ≤ 32 ∧ hi ≤ 32 ∧ (0 ≤ hi → lo ≤ hi))
mutual
/-- May it be, where it stands so deep? -/
def Pat.fit : Pat → Nat → Bool
  | .mk op _ lo hi kids, d => decide (d ≤ 64) && (okN op lo hi kids.length && fitL kids (d + 1))
def fitL : List Pat → Nat → Bool
  | [], _ => true
  | p :: ps, d => p.fit d && fitL ps d
end
mutual
/-- Read from the ends. -/
def Pat.back : Pat → Pat
  | .mk op s lo hi kids => .mk op s lo hi (bif op == 1 then (backL kids).reverse else backL kids)
def backL : List Pat → List Pat
  | [] => []
  | p :: ps => p.back :: backL ps
end
mutual
/-- A Rep and a Not have one kid. -/
def Pat.ok : Pat → Bool
  | .mk op _ _ _ kids => ((op != 3 && op != 5) || kids.length == 1) && okL kids
def okL : List Pat → Bool
  | [] => true
  | p :: ps => p.ok && okL ps
end
theorem rnulAll_eq (l : List Pat) : rnulAll l = l.all Pat.rnul := by induction l with | nil => rfl | cons p ps ih => simp [rnulAll, ih]
theorem rnulOne_eq (l : List Pat) : rnulOne l = l.any Pat.rnul := by induction l with | nil => rfl | cons p ps ih => simp [rnulOne, ih]
theorem nulAll_eq (l : List Pat) : nulAll l = l.all Pat.nul := by induction l with | nil => rfl | cons p ps ih => simp [nulAll, ih]
theorem nulOne_eq (l : List Pat) : nulOne l = l.any Pat.nul := by induction l with | nil => rfl | cons p ps ih => simp [nulOne, ih]
theorem fitL_eq (l : List Pat) (d : Nat) : fitL l d = l.all (fun p => p.fit d) := by induction l with | nil => rfl | cons p ps ih => simp [fitL, ih]
theorem okL_eq (l : List Pat) : okL l = l.all Pat.ok := by induction l with | nil => rfl | cons p ps ih => simp [okL, ih]
theorem backL_eq (l : List Pat) : backL l = l.map Pat.back := by induction l with | nil => rfl | cons p ps ih => simp [backL, ih]
theorem rnul_eq (p : Pat) : p.rnul = (bif p.op == 1 then p.kids.all Pat.rnul else bif p.op == 4 then p.kids.all Pat.rnul else bif p.op == 2 then p.kids.any Pat.rnul else bif p.op == 3 then (p.lo == 0 || p.kids.any Pat.rnul) else bif p.op == 5 then !p.kids.any Pat.rnul else false) := by
  cases p; simp only [Pat.rnul, rnulAll_eq, rnulOne_eq, Pat.op, Pat.lo, Pat.kids] <;> rfl
theorem nul_eq (p : Pat) : p.nul = (bif p.op == 1 then p.kids.all Pat.nul else bif p.op == 4 then p.kids.all Pat.nul else bif p.op == 2 then p.kids.any Pat.nul else bif p.op == 3 then (p.lo == 0 || p.kids.all Pat.nul) else bif p.op == 5 then !p.kids.all Pat.nul else false) := by
  cases p; simp only [Pat.nul, nulAll_eq, nulOne_eq, Pat.op, Pat.lo, Pat.kids] <;> rfl
theorem bytes_eq (p : Pat) : p.bytes = (bif p.op == 0 then p.set else 0) ||| bytesL p.kids := by cases p; simp only [Pat.bytes, Pat.op, Pat.set, Pat.kids] <;> rfl
theorem same_eq (p q : Pat) : p.same q = (p.op == q.op && (decide (p.set = q.set) && (p.lo == q.lo && (p.hi == q.hi && sameL p.kids q.kids)))) := by cases p; cases q; simp only [Pat.same, Pat.op, Pat.set, Pat.lo, Pat.hi, Pat.kids] <;> rfl
theorem fit_eq (p : Pat) (d : Nat) : p.fit d = (decide (d ≤ 64) && (okN p.op p.lo p.hi p.kids.length && p.kids.all (fun q => q.fit (d + 1)))) := by cases p; simp only [Pat.fit, fitL_eq, Pat.op, Pat.lo, Pat.hi, Pat.kids] <;> rfl
theorem back_eq (p : Pat) : p.back = .mk p.op p.set p.lo p.hi (bif p.op == 1 then (p.kids.map Pat.back).reverse else p.kids.map Pat.back) := by cases p; simp only [Pat.back, backL_eq, Pat.op, Pat.set, Pat.lo, Pat.hi, Pat.kids] <;> rfl
theorem ok_eq (p : Pat) : p.ok = (((p.op != 3 && p.op != 5) || p.kids.length == 1) && p.kids.all Pat.ok) := by cases p; simp only [Pat.ok, okL_eq, Pat.op, Pat.kids] <;> rfl
theorem op_mk (a : Int) (s : BitVec 256) (lo hi : Int) (k : List Pat) : (Pat.mk a s lo hi k).op = a := rfl
theorem set_mk (a : Int) (s : BitVec 256) (lo hi : Int) (k : List Pat) : (Pat.mk a s lo hi k).set = s := rfl
theorem lo_mk (a : Int) (s : BitVec 256) (lo hi : Int) (k : List Pat) : (Pat.mk a s lo hi k).lo = lo := rfl
theorem hi_mk (a : Int) (s : BitVec 256) (lo hi : Int) (k : List Pat) : (Pat.mk a s lo hi k).hi = hi := rfl
theorem kids_mk (a : Int) (s : BitVec 256) (lo hi : Int) (k : List Pat) : (Pat.mk a s lo hi k).kids = k := rfl
theorem sameL_length : ∀ (a b : List Pat), a.length ≠ b.length → sameL a b = false
  | [], [], h => by simp at h
  | [], _ :: _, _ => rfl
  | _ :: _, [], _ => rfl
  | p :: ps, q :: qs, h => by simp [sameL, sameL_length ps qs (by simpa using h)]
theorem sameL_true : ∀ (a b : List Pat), a.length = b.length → (∀ i (ha : i < a.length) (hb : i < b.length), a[i].same b[i] = true) → sameL a b = true
  | [], [], _, _ => rfl
  | [], _ :: _, h, _ => by simp at h
  | _ :: _, [], h, _ => by simp at h
  | p :: ps, q :: qs, h, H => by
    have h0 : p.same q = true := H 0 (Nat.zero_lt_succ _) (Nat.zero_lt_succ _)
    rw [sameL, h0, Bool.true_and]
    exact sameL_true ps qs (by simpa using h) fun i ha hb => H (i + 1) (Nat.succ_lt_succ ha) (Nat.succ_lt_succ hb)
theorem sameL_false : ∀ (a b : List Pat) i (ha : i < a.length) (hb : i < b.length), a[i].same b[i] = false → sameL a b = false
  | p :: ps, q :: qs, 0, _, _, H => by rw [sameL, show p.same q = false from H, Bool.false_and]
  | p :: ps, q :: qs, i + 1, ha, hb, H => by rw [sameL, sameL_false ps qs i (Nat.lt_of_succ_lt_succ ha) (Nat.lt_of_succ_lt_succ hb) H, Bool.and_false]
/-- By size. -/
theorem Pat.by_size {P : Pat → Prop} (h : ∀ p : Pat, (∀ q, q ∈ p.kids → P q) → P p) (p : Pat) : P p := by
  suffices ∀ n (p : Pat), p.size ≤ n → P p from this _ p (Nat.le_refl _)
  intro n
  induction n with
  | zero => intro p hp; have := size_eq p; omega
  | succ n ih =>
    intro p hp
    refine h p fun q hq => ih q ?_
    obtain ⟨i, hi, rfl⟩ := List.getElem_of_mem hq
    have := size_kid p.kids i hi
    have := size_eq p
    omega
theorem same_self (p : Pat) : p.same p = true := by
  induction p using Pat.by_size with | h p ih => ?_
  rw [same_eq, sameL_true _ _ rfl fun i ha _ => ih _ (List.getElem_mem ha)]
  simp
theorem pat_eta (p : Pat) : Pat.mk p.op p.set p.lo p.hi p.kids = p := by cases p; rfl
theorem map_congr_mem {α β : Type} {f g : α → β} {l : List α} (h : ∀ x ∈ l, f x = g x) : l.map f = l.map g := List.map_congr_left h
theorem back_mk (op : Int) (s : BitVec 256) (lo hi : Int) (kids : List Pat) : (Pat.mk op s lo hi kids).back = .mk op s lo hi (bif op == 1 then (kids.map Pat.back).reverse else kids.map Pat.back) := by simp only [Pat.back, backL_eq]
theorem back_back (p : Pat) : p.back.back = p := by
  induction p using Pat.by_size with | h p ih => ?_
  cases p with
  | mk op s lo hi kids =>
    have hm : (kids.map Pat.back).map Pat.back = kids := by
      rw [List.map_map]
      conv => rhs; rw [← List.map_id kids]
      exact List.map_congr_left fun q hq => by simpa using ih q hq
    rw [back_mk, back_mk]
    cases op == 1
    · simp only [cond_false, hm]
    · simp only [cond_true, List.map_reverse, List.reverse_reverse, hm]
theorem sizes_map (l : List Pat) (f : Pat → Pat) (h : ∀ q ∈ l, (f q).size = q.size) : Pat.sizes (l.map f) = Pat.sizes l := by
  induction l with
  | nil => rfl
  | cons p ps ih => simp only [List.map_cons, Pat.sizes]; rw [h p (by simp), ih fun q hq => h q (by simp [hq])]
theorem sizes_reverse (l : List Pat) : Pat.sizes l.reverse = Pat.sizes l := by
  induction l with
  | nil => rfl
  | cons p ps ih => rw [List.reverse_cons, sizes_append, ih]; simp only [Pat.sizes]; omega
theorem back_size (p : Pat) : p.back.size = p.size := by
  induction p using Pat.by_size with | h p ih => ?_
  cases p with
  | mk op s lo hi kids =>
    rw [back_mk, size_eq, size_eq, kids_mk, kids_mk]
    rw [kids_mk] at ih
    cases op == 1
    · simp only [cond_false]; rw [sizes_map _ _ ih]
    · simp only [cond_true]; rw [sizes_reverse, sizes_map _ _ ih]
theorem bytesL_append (a b : List Pat) : bytesL (a ++ b) = bytesL a ||| bytesL b := by
  induction a with
  | nil => simp [bytesL]
  | cons p ps ih => simp [bytesL, ih, BitVec.or_assoc]
theorem bytesL_reverse (l : List Pat) : bytesL l.reverse = bytesL l := by
  induction l with
  | nil => rfl
  | cons p ps ih => rw [List.reverse_cons, bytesL_append, ih]; simp [bytesL, BitVec.or_comm]
theorem bytesL_map (l : List Pat) (f : Pat → Pat) (h : ∀ q ∈ l, (f q).bytes = q.bytes) : bytesL (l.map f) = bytesL l := by
  induction l with
  | nil => rfl
  | cons p ps ih => simp only [List.map_cons, bytesL]; rw [h p (by simp), ih fun q hq => h q (by simp [hq])]
theorem back_bytes (p : Pat) : p.back.bytes = p.bytes := by
  induction p using Pat.by_size with | h p ih => ?_
  cases p with
  | mk op s lo hi kids =>
    rw [back_mk, bytes_eq, bytes_eq, kids_mk, kids_mk, op_mk, op_mk, set_mk, set_mk]
    have := bytesL_map _ _ ih
    rw [kids_mk] at this
    cases op == 1
    · simp only [cond_false]; rw [this]
    · simp only [cond_true]; rw [bytesL_reverse, this]
theorem all_map {l : List Pat} {f : Pat → Bool} {g : Pat → Pat} (h : ∀ q ∈ l, f (g q) = f q) : (l.map g).all f = l.all f := by
  induction l with
  | nil => rfl
  | cons p ps ih => simp only [List.map_cons, List.all_cons]; rw [h p (by simp), ih fun q hq => h q (by simp [hq])]
theorem any_map' {l : List Pat} {f : Pat → Bool} {g : Pat → Pat} (h : ∀ q ∈ l, f (g q) = f q) : (l.map g).any f = l.any f := by
  induction l with
  | nil => rfl
  | cons p ps ih => simp only [List.map_cons, List.any_cons]; rw [h p (by simp), ih fun q hq => h q (by simp [hq])]
theorem back_nul (p : Pat) : p.back.nul = p.nul := by
  induction p using Pat.by_size with | h p ih => ?_
  cases p with
  | mk op s lo hi kids =>
    rw [back_mk, nul_eq, nul_eq, kids_mk, kids_mk, op_mk, op_mk, lo_mk, lo_mk]
    rw [kids_mk] at ih
    have h1 := all_map ih
    have h2 := any_map' ih
    cases op == 1
    · simp only [cond_false]; rw [h1, h2]
    · simp only [cond_true]; rw [List.all_reverse, h1]
theorem back_fit (p : Pat) : ∀ d, p.back.fit d = p.fit d := by
  induction p using Pat.by_size with | h p ih => ?_
  intro d
  cases p with
  | mk op s lo hi kids =>
    rw [back_mk, fit_eq, fit_eq, kids_mk, kids_mk, op_mk, op_mk, lo_mk, lo_mk, hi_mk, hi_mk]
    rw [kids_mk] at ih
    have h1 := all_map (f := fun q => Pat.fit q (d + 1)) (fun q hq => ih q hq (d + 1))
    cases op == 1
    · simp only [cond_false]; rw [h1, List.length_map]
    · simp only [cond_true]; rw [List.all_reverse, h1, List.length_reverse, List.length_map]
/-- Where a Rep and a Not have one kid, the program's and the reference's answers are the same. -/
theorem nul_rnul (p : Pat) : p.ok = true → p.nul = p.rnul := by
  induction p using Pat.by_size with | h p ih => ?_
  intro hok
  rw [ok_eq, Bool.and_eq_true] at hok
  obtain ⟨h1, h2⟩ := hok
  have hk : ∀ q ∈ p.kids, q.nul = q.rnul := fun q hq => ih q hq (List.all_eq_true.1 h2 q hq)
  have ha : p.kids.all Pat.nul = p.kids.all Pat.rnul := by
    rw [Bool.eq_iff_iff, List.all_eq_true, List.all_eq_true]
    exact ⟨fun H q hq => by rw [← hk q hq]; exact H q hq, fun H q hq => by rw [hk q hq]; exact H q hq⟩
  have ho : p.kids.any Pat.nul = p.kids.any Pat.rnul := by
    rw [Bool.eq_iff_iff, List.any_eq_true, List.any_eq_true]
    exact ⟨fun ⟨q, hq, H⟩ => ⟨q, hq, by rw [← hk q hq]; exact H⟩, fun ⟨q, hq, H⟩ => ⟨q, hq, by rw [hk q hq]; exact H⟩⟩
  rw [nul_eq, rnul_eq, ha, ho]
  by_cases h3 : p.op = 3
  · have : p.kids.length = 1 := by simpa [h3] using h1
    obtain ⟨q, hq⟩ := List.length_eq_one_iff.1 this
    simp [h3, hq]
  · by_cases h5 : p.op = 5
    · have : p.kids.length = 1 := by simpa [h5] using h1
      obtain ⟨q, hq⟩ := List.length_eq_one_iff.1 this
      simp [h5, hq]
    · have e3 : (p.op == 3) = false := by simpa using h3
      have e5 : (p.op == 5) = false := by simpa using h5
      simp only [e3, e5, cond_false]
end Go.Proofs.Ytnjcefjcpmjdiaa
