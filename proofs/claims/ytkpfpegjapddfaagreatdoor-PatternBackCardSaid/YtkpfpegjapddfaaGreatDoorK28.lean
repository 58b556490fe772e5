/- Texts that a proof rests on: What is read of a text is read of a longer one: escapes, numbers, classes, endings. | What is read of a text is read of a longer one: items, sequences, rows, patterns. | What PatternWraps asks of what is read: brackets, a bar, where an error is. -/
import Derived.Test.YtkpfpegjapddfaaGreatDoorK25
set_option maxRecDepth 20000
namespace Go.Proofs.YtkpfpegjapddfaaGreatDoor
open Go.RowKit

theorem sees_app {l : List UInt8} (r : List UInt8) (b : Nat) (h : l ≠ []) : seesB (l ++ r) b = seesB l b := by
  cases l with
  | nil => exact absurd rfl h
  | cons c t => rfl
theorem sees_drop_app {l : List UInt8} (r : List UInt8) {k : Nat} (b : Nat) (h : k < l.length) : seesB ((l ++ r).drop k) b = seesB (l.drop k) b := by
  rw [List.drop_append_of_le_length (by omega)]
  exact sees_app r b (fun e => by have := congrArg List.length e; simp at this; omega)
theorem sees_lt {l : List UInt8} {k b : Nat} (h : seesB (l.drop k) b = true) : k < l.length := by
  have := sees_len h
  rw [List.length_drop] at this
  omega
theorem unesc_app {l : List UInt8} (r : List UInt8) (h : (unesc l).2 ≠ 0) : unesc (l ++ r) = unesc l := by
  rcases l with _ | ⟨a, _ | ⟨c, t⟩⟩
  · exact absurd rfl h
  · exact absurd rfl h
  · by_cases e1 : c = 110
    · simp [unesc, e1]
    by_cases e2 : c = 116
    · simp [unesc, e2]
    by_cases e3 : c = 114
    · simp [unesc, e3]
    by_cases e4 : escB c.toNat = true
    · simp [unesc, e1, e2, e3, e4]
    by_cases e5 : c = 120
    · rcases t with _ | ⟨x, _ | ⟨y, t⟩⟩
      · exact absurd (by simp [unesc, e1, e2, e3, e4]) h
      · exact absurd (by simp [unesc, e1, e2, e3, e4]) h
      · subst e5
        rfl
    · simp [unesc, e1, e2, e3, e4, e5]
theorem oneB_app {P : Nat → Bool} {l : List UInt8} (r : List UInt8) {b n : Nat} (h : oneB P l = some (b, n)) : oneB P (l ++ r) = some (b, n) := by
  cases l with
  | nil => exact absurd h (by simp [oneB])
  | cons c t =>
    unfold oneB at h
    simp only at h
    by_cases hc : c = 92
    · rw [if_pos hc] at h
      by_cases hz : (unesc (c :: t)).2 = 0
      · rw [if_pos hz] at h
        exact absurd h (by simp)
      · rw [if_neg hz] at h
        have hu := unesc_app r hz
        show (if c = 92 then (if (unesc (c :: t ++ r)).2 = 0 then none else some (unesc (c :: t ++ r))) else (if P c.toNat = true then some (c.toNat, 1) else none)) = _
        rw [if_pos hc, hu, if_neg hz]
        exact h
    · rw [if_neg hc] at h
      show (if c = 92 then (if (unesc (c :: t ++ r)).2 = 0 then none else some (unesc (c :: t ++ r))) else (if P c.toNat = true then some (c.toNat, 1) else none)) = _
      rw [if_neg hc]
      exact h
theorem takeWhile_app (p : UInt8 → Bool) : ∀ (l r : List UInt8), (l.takeWhile p).length < l.length → (l ++ r).takeWhile p = l.takeWhile p
  | [], _, h => by simp at h
  | c :: t, r, h => by
    rw [List.cons_append, List.takeWhile_cons, List.takeWhile_cons]
    by_cases hc : p c = true
    · rw [if_pos hc, if_pos hc]
      rw [List.takeWhile_cons, if_pos hc] at h
      rw [takeWhile_app p t r (by simpa using h)]
    · rw [if_neg hc, if_neg hc]
theorem numB_app {l : List UInt8} (r : List UInt8) {n k : Nat} (h : numB l = some (n, k)) (hk : k < l.length) : numB (l ++ r) = some (n, k) := by
  have hd : k = digN l := by
    unfold numB at h
    split at h
    · simp at h
    · simp at h
      exact h.2.symm
  have ht : (l ++ r).takeWhile digC = l.takeWhile digC := takeWhile_app _ _ _ (by unfold digN at hd; omega)
  have hn : digN (l ++ r) = digN l := by unfold digN; rw [ht]
  unfold numB at h ⊢
  rw [hn, ht]
  exact h
theorem upperR_app {l : List UInt8} (r : List UInt8) {b : Int} {k : Nat} (h : upperR l = .ok (b, k)) (hk : k < l.length) : upperR (l ++ r) = .ok (b, k) := by
  have hl : l ≠ [] := fun e => by rw [e] at hk; simp at hk
  unfold upperR at h ⊢
  rw [sees_app r _ hl]
  by_cases hs : seesB l 125 = true
  · rw [if_pos hs] at h ⊢
    exact h
  · rw [if_neg hs] at h ⊢
    cases hn : numB l with
    | none => rw [hn] at h; simp at h
    | some x =>
      obtain ⟨n, j⟩ := x
      rw [hn] at h
      simp only [Except.ok.injEq, Prod.mk.injEq] at h
      rw [numB_app r hn (by omega)]
      simp only [Except.ok.injEq, Prod.mk.injEq]
      exact h
theorem countR_app {l : List UInt8} (r : List UInt8) {p : Int × Int} {n : Nat} (h : countR l = .ok (p, n)) : countR (l ++ r) = .ok (p, n) := by
  unfold countR at h ⊢
  cases hn : numB l with
  | none => rw [hn] at h; simp at h
  | some x =>
    obtain ⟨a, k⟩ := x
    rw [hn] at h
    simp only at h
    by_cases h1 : seesB (l.drop k) 44 = true
    · have hk := sees_lt h1
      rw [if_pos h1] at h
      rw [numB_app r hn hk]
      simp only
      rw [sees_drop_app r _ hk, if_pos h1]
      have hk1 := hk
      cases hu : upperR (l.drop (k + 1)) with
      | error d => rw [hu] at h; simp at h
      | ok y =>
        obtain ⟨b, k2⟩ := y
        rw [hu] at h
        simp only at h
        by_cases h2 : b ≠ -1 ∧ b < a
        · rw [if_pos h2] at h; simp at h
        · rw [if_neg h2] at h
          by_cases h3 : seesB (l.drop (k + 1 + k2)) 125 = true
          · have hk3 := sees_lt h3
            rw [if_pos h3] at h
            have hd : (l ++ r).drop (k + 1) = l.drop (k + 1) ++ r := List.drop_append_of_le_length (by omega)
            rw [hd, upperR_app r hu (by rw [List.length_drop]; omega)]
            simp only
            rw [if_neg h2, sees_drop_app r _ hk3, if_pos h3]
            exact h
          · rw [if_neg h3] at h; simp at h
    · rw [if_neg h1] at h
      by_cases h3 : seesB (l.drop k) 125 = true
      · have hk := sees_lt h3
        rw [if_pos h3] at h
        rw [numB_app r hn hk]
        simp only
        rw [sees_drop_app r _ hk, if_neg h1, sees_drop_app r _ hk, if_pos h3]
        exact h
      · rw [if_neg h3] at h; simp at h
theorem repR_app {l : List UInt8} (r : List UInt8) (hl : l ≠ []) {x : Option (Int × Int)} {n : Nat} (h : repR l = .ok (x, n)) : repR (l ++ r) = .ok (x, n) := by
  cases l with
  | nil => exact absurd rfl hl
  | cons c t =>
    show (if c = 123 then (match countR (t ++ r) with | .ok (p, n) => Except.ok (some p, n + 1) | .error d => .error (d + 1)) else match opB c.toNat with | some p => .ok (some p, 1) | none => .ok (none, 0)) = _
    have h' : (if c = 123 then (match countR t with | .ok (p, n) => Except.ok (some p, n + 1) | .error d => .error (d + 1)) else match opB c.toNat with | some p => .ok (some p, 1) | none => .ok (none, 0)) = Except.ok (x, n) := h
    by_cases hc : c = 123
    · rw [if_pos hc] at h' ⊢
      cases hk : countR t with
      | error d => rw [hk] at h'; simp at h'
      | ok y =>
        obtain ⟨p, m⟩ := y
        rw [hk] at h'
        rw [countR_app r hk]
        exact h'
    · rw [if_neg hc] at h' ⊢
      exact h'
theorem elemR_app {l : List UInt8} (r : List UInt8) {p : Nat × Nat} {n : Nat} (h : elemR l = .ok (p, n)) (hn : n < l.length) : elemR (l ++ r) = .ok (p, n) := by
  unfold elemR at h ⊢
  cases ho : oneB plainC l with
  | none => rw [ho] at h; simp at h
  | some x =>
    obtain ⟨lo, m⟩ := x
    rw [ho] at h
    rw [oneB_app r ho]
    simp only at h ⊢
    by_cases h1 : seesB (l.drop m) 45 = true
    · have hm := sees_lt h1
      rw [if_pos h1] at h
      rw [sees_drop_app r _ hm, if_pos h1]
      have hd : (l ++ r).drop (m + 1) = l.drop (m + 1) ++ r := List.drop_append_of_le_length (by omega)
      rw [hd]
      cases ho2 : oneB plainC (l.drop (m + 1)) with
      | none => rw [ho2] at h; simp at h
      | some y =>
        obtain ⟨hi, m2⟩ := y
        rw [ho2] at h
        rw [oneB_app r ho2]
        exact h
    · rw [if_neg h1] at h
      have hm : m < l.length := by
        simp only [Except.ok.injEq, Prod.mk.injEq] at h
        omega
      rw [sees_drop_app r _ hm, if_neg h1]
      exact h
theorem classR_nil (f : Nat) (a : BitVec 256) : ∃ d, classR f [] a = .error d := by
  cases f with
  | zero => exact ⟨0, rfl⟩
  | succ f => exact ⟨0, rfl⟩
theorem classR_app : ∀ (f f' : Nat) (l r : List UInt8) (a b : BitVec 256) (k : Nat), classR f l a = .ok (b, k) → f ≤ f' → classR f' (l ++ r) a = .ok (b, k)
  | 0, _, _, _, _, _, _, h, _ => by simp [classR] at h
  | f + 1, 0, _, _, _, _, _, _, hf => by omega
  | f + 1, f' + 1, l, r, a, b, k, h, hf => by
    have hl : l ≠ [] := fun e => by
      obtain ⟨d, hd⟩ := classR_nil (f + 1) a
      rw [e, hd] at h
      simp at h
    by_cases h1 : seesB l 93 = true
    · rw [classR_end h1] at h
      rw [classR_end (by rw [sees_app r _ hl]; exact h1)]
      exact h
    · have h1' : seesB l 93 = false := by simpa using h1
      unfold classR at h
      rw [if_neg h1] at h
      cases he : elemR l with
      | error d => rw [he] at h; simp at h
      | ok x =>
        obtain ⟨p, n⟩ := x
        rw [he] at h
        simp only at h
        cases hc : classR f (l.drop n) (a ||| ofP (rangeP p.1 p.2)) with
        | error d => rw [hc] at h; simp at h
        | ok y =>
          obtain ⟨b', k'⟩ := y
          rw [hc] at h
          simp only at h
          have hn : n < l.length := by
            rcases Nat.lt_or_ge n l.length with h | h2
            · exact h
            · obtain ⟨d, hd⟩ := classR_nil f (a ||| ofP (rangeP p.1 p.2))
              rw [List.drop_eq_nil_of_le h2, hd] at hc
              simp at hc
          rw [classR_elem (by rw [sees_app r _ hl]; exact h1') (elemR_app r he hn), List.drop_append_of_le_length (by omega), classR_app f f' (l.drop n) r _ b' k' hc (by omega)]
          exact h
theorem clsR_app {l : List UInt8} (r : List UInt8) {b : BitVec 256} {k : Nat} (h : clsR l = .ok (b, k)) : clsR (l ++ r) = .ok (b, k) := by
  have hl : l ≠ [] := fun e => by
    rw [e] at h
    have : clsR [] = .error 0 := rfl
    rw [this] at h
    simp at h
  unfold clsR at h ⊢
  rw [sees_app r _ hl]
  by_cases h1 : seesB l 94 = true
  · rw [if_pos h1] at h ⊢
    have hd : (l ++ r).drop 1 = l.drop 1 ++ r := List.drop_append_of_le_length (by have := sees_len h1; omega)
    cases hc : classR (l.length + 1) (l.drop 1) 0 with
    | error d => rw [hc] at h; simp at h
    | ok y =>
      obtain ⟨a, n⟩ := y
      rw [hc] at h
      rw [hd, classR_app _ _ _ r _ a n hc (by simp)]
      exact h
  · rw [if_neg h1] at h ⊢
    exact classR_app _ _ _ r _ b k h (by simp)
theorem leafR_app {l : List UInt8} (r : List UInt8) {p : Pat} {n : Nat} (h : leafR l = .ok (p, n)) : leafR (l ++ r) = .ok (p, n) := by
  have hl : l ≠ [] := fun e => by
    rw [e] at h
    have : leafR [] = .error 0 := rfl
    rw [this] at h
    simp at h
  unfold leafR at h ⊢
  rw [sees_app r _ hl, sees_app r _ hl]
  by_cases h1 : seesB l 91 = true
  · rw [if_pos h1] at h ⊢
    have hd : (l ++ r).drop 1 = l.drop 1 ++ r := List.drop_append_of_le_length (by have := sees_len h1; omega)
    cases hc : clsR (l.drop 1) with
    | error d => rw [hc] at h; simp at h
    | ok y =>
      obtain ⟨a, m⟩ := y
      rw [hc] at h
      rw [hd, clsR_app r hc]
      exact h
  · rw [if_neg h1] at h ⊢
    by_cases h2 : seesB l 46 = true
    · rw [if_pos h2] at h ⊢
      exact h
    · rw [if_neg h2] at h ⊢
      cases ho : oneB plainB l with
      | none => rw [ho] at h; simp at h
      | some x =>
        obtain ⟨b, m⟩ := x
        rw [ho] at h
        rw [oneB_app r ho]
        exact h
end Go.Proofs.YtkpfpegjapddfaaGreatDoor
set_option maxRecDepth 20000
namespace Go.Proofs.YtkpfpegjapddfaaGreatDoor
open Go.RowKit

/-- What is read of l is read of l and r, where r is of G or l isn't read to its end. -/
def Ext (G : List UInt8 → Prop) (f : List UInt8 → Except Nat (Pat × Nat)) : Prop := ∀ l r p n, f l = .ok (p, n) → (n < l.length ∨ G r) → f (l ++ r) = .ok (p, n)
def AE (A : List UInt8 → Except Nat (Pat × Nat)) : Prop := ∀ l r p n, A l = .ok (p, n) → A (l ++ r) = .ok (p, n)
def Le (A : List UInt8 → Except Nat (Pat × Nat)) : Prop := ∀ l p n, A l = .ok (p, n) → 0 < n ∧ n ≤ l.length
def Le0 (A : List UInt8 → Except Nat (Pat × Nat)) : Prop := ∀ l p n, A l = .ok (p, n) → n ≤ l.length
def G2 (r : List UInt8) : Prop := ∃ x t, r = x :: t ∧ (x = 41 ∨ x = 124)
def G1 (r : List UInt8) : Prop := ∃ t, r = 41 :: t
theorem G1.two {r : List UInt8} (h : G1 r) : G2 r := by
  obtain ⟨t, rfl⟩ := h
  exact ⟨41, t, rfl, .inl rfl⟩
theorem drop_app {l : List UInt8} (r : List UInt8) {k : Nat} (h : k ≤ l.length) : (l ++ r).drop k = l.drop k ++ r := List.drop_append_of_le_length h
theorem repLoop_ext : ∀ (f f' : Nat) (l r : List UInt8) (p q : Pat) (n : Nat), repLoop f l p = .ok (q, n) → l.length < f → f ≤ f' → (n < l.length ∨ G2 r) → repLoop f' (l ++ r) p = .ok (q, n)
  | 0, _, _, _, _, _, _, _, h, _, _ => by omega
  | f + 1, 0, _, _, _, _, _, _, _, h, _ => by omega
  | f + 1, f' + 1, l, r, p, q, n, h, hf, hff, hg => by
    by_cases hl : l = []
    · subst hl
      have h0 : repLoop (f + 1) [] p = .ok (p, 0) := rfl
      rw [h0] at h
      simp only [Except.ok.injEq, Prod.mk.injEq] at h
      obtain ⟨rfl, rfl⟩ := h
      rcases hg with hg | ⟨x, t, rfl, rfl | rfl⟩
      · simp at hg
      · rfl
      · rfl
    · unfold repLoop at h ⊢
      cases hr : repR l with
      | error d => rw [hr] at h; simp at h
      | ok y =>
        obtain ⟨o, m⟩ := y
        rw [repR_app r hl hr]
        rw [hr] at h
        cases o with
        | none => exact h
        | some ab =>
          obtain ⟨a, b⟩ := ab
          have hm := repR_le hr
          have hm0 := hm.2 rfl
          simp only at h ⊢
          obtain ⟨k, hk, rfl⟩ := shiftR_ok h
          rw [drop_app r hm.1, repLoop_ext f f' (l.drop m) r _ q k hk (by rw [List.length_drop]; omega) (by omega) (by rw [List.length_drop]; rcases hg with hg | hg; exact .inl (by omega); exact .inr hg)]
          rfl
theorem nots_app {l : List UInt8} (r : List UInt8) (h : notsN l < l.length) : notsN (l ++ r) = notsN l := by
  unfold notsN at h ⊢
  rw [takeWhile_app _ _ _ h]
theorem mapR_ok {g : Pat → Pat} {x : Except Nat (Pat × Nat)} {q : Pat} {n : Nat} (h : mapR g x = .ok (q, n)) : ∃ p, x = .ok (p, n) ∧ q = g p := by
  rcases x with d | ⟨p, m⟩
  · simp [mapR] at h
  · simp only [mapR, Except.ok.injEq, Prod.mk.injEq] at h
    exact ⟨p, by rw [h.2], h.1.symm⟩
theorem item_ext {A : List UInt8 → Except Nat (Pat × Nat)} (ha : AE A) (hle : Le A) : Ext G2 (itemR A) := by
  intro l r p n h hg
  unfold itemR at h ⊢
  cases hA : A (l.drop (notsN l)) with
  | error d => rw [hA] at h; simp at h
  | ok x =>
    obtain ⟨p0, n0⟩ := x
    rw [hA] at h
    obtain ⟨h1, h2⟩ := hle _ _ _ hA
    rw [List.length_drop] at h2
    rw [nots_app r (by omega), drop_app r (by omega), ha _ r _ _ hA]
    simp only at h ⊢
    obtain ⟨q, hq, rfl⟩ := mapR_ok h
    obtain ⟨k, hk, rfl⟩ := shiftR_ok hq
    rw [drop_app r (by omega), repLoop_ext _ ((l ++ r).length + 1) _ r _ q k hk (by rw [List.length_drop]; omega) (by simp) (by rw [List.length_drop]; rcases hg with hg | hg; exact .inl (by omega); exact .inr hg)]
    rfl
theorem stop_app {l : List UInt8} (r : List UInt8) (h : l ≠ []) : stopB (l ++ r) = stopB l := by
  unfold stopB
  rw [sees_app r _ h, sees_app r _ h, sees_app r _ h]
  cases l with
  | nil => exact absurd rfl h
  | cons c t => rfl
theorem seqLoop_ext {item : List UInt8 → Except Nat (Pat × Nat)} (hi : Ext G2 item) (hle : Le item) : ∀ (f f' : Nat) (l r : List UInt8) (ps : List Pat) (n : Nat), seqLoop item f l = .ok (ps, n) → l.length < f → f ≤ f' → (n < l.length ∨ G2 r) → seqLoop item f' (l ++ r) = .ok (ps, n)
  | 0, _, _, _, _, _, _, h, _, _ => by omega
  | f + 1, 0, _, _, _, _, _, _, h, _ => by omega
  | f + 1, f' + 1, l, r, ps, n, h, hf, hff, hg => by
    by_cases hl : l = []
    · subst hl
      have h0 : seqLoop item (f + 1) [] = .ok ([], 0) := rfl
      rw [h0] at h
      simp only [Except.ok.injEq, Prod.mk.injEq] at h
      obtain ⟨rfl, rfl⟩ := h
      rcases hg with hg | ⟨x, t, rfl, rfl | rfl⟩
      · simp at hg
      · rfl
      · rfl
    · by_cases hs : stopB l = true
      · rw [seqLoop_stop hs] at h
        rw [seqLoop_stop (by rw [stop_app r hl]; exact hs)]
        exact h
      · have hs' : stopB (l ++ r) = false := by rw [stop_app r hl]; simpa using hs
        unfold seqLoop at h ⊢
        rw [if_neg hs] at h
        rw [if_neg (by rw [hs']; decide)]
        cases hit : item l with
        | error d => rw [hit] at h; simp at h
        | ok x =>
          obtain ⟨p, m⟩ := x
          rw [hit] at h
          obtain ⟨m0, m1⟩ := hle _ _ _ hit
          simp only at h
          cases hr : seqLoop item f (l.drop m) with
          | error d => rw [hr] at h; simp at h
          | ok y =>
            obtain ⟨qs, k⟩ := y
            rw [hr] at h
            simp only [Except.ok.injEq, Prod.mk.injEq] at h
            obtain ⟨rfl, rfl⟩ := h
            rw [hi l r p m hit (by rcases hg with hg | hg; exact .inl (by omega); exact .inr hg)]
            simp only
            rw [drop_app r m1, seqLoop_ext hi hle f f' (l.drop m) r qs k hr (by rw [List.length_drop]; omega) (by omega) (by rw [List.length_drop]; rcases hg with hg | hg; exact .inl (by omega); exact .inr hg)]
theorem seq_ext {item : List UInt8 → Except Nat (Pat × Nat)} (hi : Ext G2 item) (hle : Le item) : Ext G2 (seqR item) := by
  intro l r p n h hg
  unfold seqR at h ⊢
  obtain ⟨ps, hps, rfl⟩ := jr_ok h
  rw [seqLoop_ext hi hle _ ((l ++ r).length + 1) l r ps n hps (by omega) (by simp) hg]
  rfl
theorem rowLoop_ext {G : List UInt8 → Prop} {part : List UInt8 → Except Nat (Pat × Nat)} {sep : Nat} (hp : Ext G part) (hle : Le0 part) (hG : ∀ r, G r → seesB r sep = false) : ∀ (f f' : Nat) (l r : List UInt8) (ps : List Pat) (n : Nat), rowLoop part sep f l = .ok (ps, n) → l.length < f → f ≤ f' → (n < l.length ∨ G r) → rowLoop part sep f' (l ++ r) = .ok (ps, n)
  | 0, _, _, _, _, _, _, h, _, _ => by omega
  | f + 1, 0, _, _, _, _, _, _, h, _ => by omega
  | f + 1, f' + 1, l, r, ps, n, h, hf, hff, hg => by
    by_cases hl : l = []
    · subst hl
      have h0 : rowLoop part sep (f + 1) [] = .ok ([], 0) := rfl
      rw [h0] at h
      simp only [Except.ok.injEq, Prod.mk.injEq] at h
      obtain ⟨rfl, rfl⟩ := h
      rcases hg with hg | hg
      · simp at hg
      · show (if seesB r sep = true then _ else _) = _
        rw [if_neg (by rw [hG r hg]; decide)]
    · unfold rowLoop at h ⊢
      rw [sees_app r _ hl]
      by_cases hs : seesB l sep = true
      · have hlen := sees_len hs
        rw [if_pos hs] at h ⊢
        rw [drop_app r (by omega)]
        cases hit : part (l.drop 1) with
        | error d => rw [hit] at h; simp at h
        | ok x =>
          obtain ⟨p, m⟩ := x
          rw [hit] at h
          have m1 := hle _ _ _ hit
          rw [List.length_drop] at m1
          simp only at h
          cases hr : rowLoop part sep f (l.drop (m + 1)) with
          | error d => rw [hr] at h; simp at h
          | ok y =>
            obtain ⟨qs, k⟩ := y
            rw [hr] at h
            simp only [Except.ok.injEq, Prod.mk.injEq] at h
            obtain ⟨rfl, rfl⟩ := h
            rw [hp (l.drop 1) r p m hit (by rw [List.length_drop]; rcases hg with hg | hg; exact .inl (by omega); exact .inr hg)]
            simp only
            rw [drop_app r (by omega), rowLoop_ext hp hle hG f f' (l.drop (m + 1)) r qs k hr (by rw [List.length_drop]; omega) (by omega) (by rw [List.length_drop]; rcases hg with hg | hg; exact .inl (by omega); exact .inr hg)]
      · rw [if_neg hs] at h ⊢
        exact h
theorem row_ext {G : List UInt8 → Prop} {part : List UInt8 → Except Nat (Pat × Nat)} {op : Int} {sep : Nat} (hp : Ext G part) (hle : Le0 part) (hG : ∀ r, G r → seesB r sep = false) : Ext G (rowR part op sep) := by
  intro l r p n h hg
  unfold rowR at h ⊢
  cases hit : part l with
  | error d => rw [hit] at h; simp at h
  | ok x =>
    obtain ⟨p0, m⟩ := x
    rw [hit] at h
    have m1 := hle _ _ _ hit
    simp only at h
    cases hr : rowLoop part sep (l.length + 1) (l.drop m) with
    | error d => rw [hr] at h; simp at h
    | ok y =>
      obtain ⟨qs, k⟩ := y
      rw [hr] at h
      simp only [Except.ok.injEq, Prod.mk.injEq] at h
      obtain ⟨rfl, rfl⟩ := h
      rw [hp l r p0 m hit (by rcases hg with hg | hg; exact .inl (by omega); exact .inr hg)]
      simp only
      rw [drop_app r m1, rowLoop_ext hp hle hG (l.length + 1) ((l ++ r).length + 1) (l.drop m) r qs k hr (by rw [List.length_drop]; omega) (by simp) (by rw [List.length_drop]; rcases hg with hg | hg; exact .inl (by omega); exact .inr hg)]
/-- A conjunction. -/
def conR (A : List UInt8 → Except Nat (Pat × Nat)) : List UInt8 → Except Nat (Pat × Nat) := rowR (seqR (itemR A)) 4 38
theorem con_ext {A : List UInt8 → Except Nat (Pat × Nat)} (ha : AE A) (hle : Le A) : Ext G2 (conR A) :=
  row_ext (seq_ext (item_ext ha hle) (fun _ _ _ h => itemR_le hle h)) (fun _ _ _ h => seqR_le (fun _ _ _ h => itemR_le hle h) h) (by rintro r ⟨x, t, rfl, rfl | rfl⟩ <;> rfl)
theorem con_le {A : List UInt8 → Except Nat (Pat × Nat)} (hle : Le A) : Le0 (conR A) := fun _ _ _ h => rowR_le (fun _ _ _ h => seqR_le (fun _ _ _ h => itemR_le hle h) h) h
theorem Ext.sub {G H : List UInt8 → Prop} {f : List UInt8 → Except Nat (Pat × Nat)} (h : Ext G f) (hs : ∀ r, H r → G r) : Ext H f := fun l r p n h1 h2 => h l r p n h1 (h2.elim .inl (fun x => .inr (hs r x)))
theorem pat_ext {A : List UInt8 → Except Nat (Pat × Nat)} (ha : AE A) (hle : Le A) : Ext G1 (patR A) :=
  row_ext ((con_ext ha hle).sub fun _ h => h.two) (con_le hle) (by rintro r ⟨t, rfl⟩; rfl)
theorem group_ext {P : List UInt8 → Except Nat (Pat × Nat)} (hp : Ext G1 P) {l : List UInt8} (r : List UInt8) (hs : seesB l 40 = true) {p : Pat} {n : Nat} (h : groupR P l = .ok (p, n)) : groupR P (l ++ r) = .ok (p, n) := by
  have hlen := sees_len hs
  unfold groupR at h ⊢
  rw [drop_app r hlen]
  cases hP : P (l.drop 1) with
  | error d => rw [hP] at h; simp at h
  | ok x =>
    obtain ⟨q, k⟩ := x
    rw [hP] at h
    simp only at h
    by_cases h1 : seesB (l.drop (k + 1)) 41 = true
    · have hk := sees_lt h1
      rw [if_pos h1] at h
      rw [hp _ r _ _ hP (.inl (by rw [List.length_drop]; omega))]
      simp only
      rw [sees_drop_app r _ hk, if_pos h1]
      exact h
    · rw [if_neg h1] at h
      simp at h
theorem atom_ext : ∀ d, AE (atomR d)
  | 0 => by
    intro l r p n h
    have hl : l ≠ [] := fun e => by
      have := atomR_le 0 l p n h
      rw [e] at this
      simp at this
      omega
    unfold atomR at h ⊢
    rw [sees_app r _ hl]
    by_cases hs : seesB l 40 = true
    · rw [if_pos hs] at h; simp at h
    · rw [if_neg hs] at h ⊢
      exact leafR_app r h
  | d + 1 => by
    intro l r p n h
    have hl : l ≠ [] := fun e => by
      have := atomR_le (d + 1) l p n h
      rw [e] at this
      simp at this
      omega
    unfold atomR at h ⊢
    rw [sees_app r _ hl]
    by_cases hs : seesB l 40 = true
    · rw [if_pos hs] at h ⊢
      exact group_ext (pat_ext (atom_ext d) (atomR_le d)) r hs h
    · rw [if_neg hs] at h ⊢
      exact leafR_app r h
end Go.Proofs.YtkpfpegjapddfaaGreatDoor
set_option maxRecDepth 20000
namespace Go.Proofs.YtkpfpegjapddfaaGreatDoor
open Go.RowKit

def Mono (A B : List UInt8 → Except Nat (Pat × Nat)) : Prop := ∀ l p n, A l = .ok (p, n) → B l = .ok (p, n)
theorem item_mono {A B : List UInt8 → Except Nat (Pat × Nat)} (h : Mono A B) : Mono (itemR A) (itemR B) := by
  intro l p n hi
  unfold itemR at hi ⊢
  cases hA : A (l.drop (notsN l)) with
  | error d => rw [hA] at hi; simp at hi
  | ok x =>
    obtain ⟨p0, n0⟩ := x
    rw [hA] at hi
    rw [h _ _ _ hA]
    exact hi
theorem seqLoop_mono {A B : List UInt8 → Except Nat (Pat × Nat)} (h : Mono A B) : ∀ (f : Nat) (l : List UInt8) (ps : List Pat) (n : Nat), seqLoop A f l = .ok (ps, n) → seqLoop B f l = .ok (ps, n)
  | 0, _, _, _, hs => hs
  | f + 1, l, ps, n, hs => by
    unfold seqLoop at hs ⊢
    by_cases hb : stopB l = true
    · rw [if_pos hb] at hs ⊢
      exact hs
    · rw [if_neg hb] at hs ⊢
      cases hA : A l with
      | error d => rw [hA] at hs; simp at hs
      | ok x =>
        obtain ⟨p0, n0⟩ := x
        rw [hA] at hs
        rw [h _ _ _ hA]
        simp only at hs ⊢
        cases hr : seqLoop A f (l.drop n0) with
        | error d => rw [hr] at hs; simp at hs
        | ok y =>
          obtain ⟨qs, k⟩ := y
          rw [hr] at hs
          rw [seqLoop_mono h f _ qs k hr]
          exact hs
theorem seq_mono {A B : List UInt8 → Except Nat (Pat × Nat)} (h : Mono A B) : Mono (seqR A) (seqR B) := by
  intro l p n hs
  unfold seqR at hs ⊢
  obtain ⟨ps, hps, rfl⟩ := jr_ok hs
  rw [seqLoop_mono h _ l ps n hps]
  rfl
theorem rowLoop_mono {A B : List UInt8 → Except Nat (Pat × Nat)} (h : Mono A B) (sep : Nat) : ∀ (f : Nat) (l : List UInt8) (ps : List Pat) (n : Nat), rowLoop A sep f l = .ok (ps, n) → rowLoop B sep f l = .ok (ps, n)
  | 0, _, _, _, hs => hs
  | f + 1, l, ps, n, hs => by
    unfold rowLoop at hs ⊢
    by_cases hb : seesB l sep = true
    · rw [if_pos hb] at hs ⊢
      cases hA : A (l.drop 1) with
      | error d => rw [hA] at hs; simp at hs
      | ok x =>
        obtain ⟨p0, n0⟩ := x
        rw [hA] at hs
        rw [h _ _ _ hA]
        simp only at hs ⊢
        cases hr : rowLoop A sep f (l.drop (n0 + 1)) with
        | error d => rw [hr] at hs; simp at hs
        | ok y =>
          obtain ⟨qs, k⟩ := y
          rw [hr] at hs
          rw [rowLoop_mono h sep f _ qs k hr]
          exact hs
    · rw [if_neg hb] at hs ⊢
      exact hs
theorem row_mono {A B : List UInt8 → Except Nat (Pat × Nat)} (h : Mono A B) (op : Int) (sep : Nat) : Mono (rowR A op sep) (rowR B op sep) := by
  intro l p n hs
  unfold rowR at hs ⊢
  cases hA : A l with
  | error d => rw [hA] at hs; simp at hs
  | ok x =>
    obtain ⟨p0, n0⟩ := x
    rw [hA] at hs
    rw [h _ _ _ hA]
    simp only at hs ⊢
    cases hr : rowLoop A sep (l.length + 1) (l.drop n0) with
    | error d => rw [hr] at hs; simp at hs
    | ok y =>
      obtain ⟨qs, k⟩ := y
      rw [hr] at hs
      rw [rowLoop_mono h sep _ _ qs k hr]
      exact hs
theorem pat_mono {A B : List UInt8 → Except Nat (Pat × Nat)} (h : Mono A B) : Mono (patR A) (patR B) := row_mono (row_mono (seq_mono (item_mono h)) _ _) _ _
theorem atom_mono : ∀ d, Mono (atomR d) (atomR (d + 1))
  | 0 => by
    intro l p n h
    unfold atomR at h ⊢
    by_cases hs : seesB l 40 = true
    · rw [if_pos hs] at h; simp at h
    · rw [if_neg hs] at h ⊢
      exact h
  | d + 1 => by
    intro l p n h
    unfold atomR at h ⊢
    by_cases hs : seesB l 40 = true
    · rw [if_pos hs] at h ⊢
      unfold groupR at h ⊢
      cases hP : patR (atomR d) (l.drop 1) with
      | error e => rw [hP] at h; simp at h
      | ok x =>
        obtain ⟨q, k⟩ := x
        rw [hP] at h
        rw [pat_mono (atom_mono d) _ _ _ hP]
        exact h
    · rw [if_neg hs] at h ⊢
      exact h
/-- What is read begins with an atom. -/
theorem pat_first {A : List UInt8 → Except Nat (Pat × Nat)} {l : List UInt8} {p : Pat} {n : Nat} (h : patR A l = .ok (p, n)) (hs : stopB l = false) : ∃ q k, A (l.drop (notsN l)) = .ok (q, k) := by
  have h' : rowR (conR A) 2 124 l = .ok (p, n) := h
  unfold rowR at h'
  cases h1 : conR A l with
  | error d => rw [h1] at h'; simp at h'
  | ok x =>
    obtain ⟨p1, n1⟩ := x
    clear h'
    unfold conR rowR at h1
    cases h2 : seqR (itemR A) l with
    | error d => rw [h2] at h1; simp at h1
    | ok y =>
      obtain ⟨p2, n2⟩ := y
      clear h1
      unfold seqR at h2
      obtain ⟨ps, hps, _⟩ := jr_ok h2
      unfold seqLoop at hps
      rw [if_neg (by rw [hs]; decide)] at hps
      cases h3 : itemR A l with
      | error d => rw [h3] at hps; simp at hps
      | ok z =>
        obtain ⟨p3, n3⟩ := z
        clear hps
        unfold itemR at h3
        cases h4 : A (l.drop (notsN l)) with
        | error d => rw [h4] at h3; simp at h3
        | ok u => exact ⟨u.1, u.2, rfl⟩
theorem whole_ok {s : ByteArray} {p : Pat} (h : wholeR s = .ok p) : patR (atomR 32) s.data.toList = .ok (p, s.size) ∧ p.fit 1 = true := by
  have hr : rest s 0 = s.data.toList := rfl
  unfold wholeR at h
  rw [hr] at h
  cases hp : patR (atomR 32) s.data.toList with
  | error d => rw [hp] at h; simp at h
  | ok x =>
    obtain ⟨q, n⟩ := x
    rw [hp] at h
    simp only at h
    by_cases h1 : n = s.size
    · rw [if_pos h1] at h
      by_cases h2 : q.fit 1 = true
      · rw [if_pos h2] at h
        simp only [Except.ok.injEq] at h
        subst h h1
        exact ⟨rfl, h2⟩
      · rw [if_neg h2] at h; simp at h
    · rw [if_neg h1] at h; simp at h
/-- In brackets a text is the same pattern. -/
theorem wrap_same {s u : ByteArray} {n w : Pat} (hs : wholeR s = .ok n) (hu : u.data.toList = 40 :: (s.data.toList ++ [41])) (hw : wholeR u = .ok w) : w = n := by
  obtain ⟨h1, _⟩ := whole_ok hs
  obtain ⟨h2, _⟩ := whole_ok hw
  rw [hu] at h2
  have hst : stopB (40 :: (s.data.toList ++ [41])) = false := rfl
  obtain ⟨q, k, hA⟩ := pat_first h2 hst
  have hnot : notsN (40 :: (s.data.toList ++ [41])) = 0 := rfl
  rw [hnot] at hA
  have hg : groupR (patR (atomR 31)) (40 :: (s.data.toList ++ [41])) = .ok (q, k) := hA
  have hext : patR (atomR 32) (s.data.toList ++ [41]) = .ok (n, s.size) := pat_ext (atom_ext 32) (atomR_le 32) _ [41] _ _ h1 (.inr ⟨[], rfl⟩)
  have hd1 : (40 :: (s.data.toList ++ [41])).drop 1 = s.data.toList ++ [41] := rfl
  unfold groupR at hg
  rw [hd1] at hg
  cases hP : patR (atomR 31) (s.data.toList ++ [41]) with
  | error e => rw [hP] at hg; simp at hg
  | ok x =>
    obtain ⟨q2, k2⟩ := x
    have hm := pat_mono (atom_mono 31) _ _ _ hP
    have hm' : patR (atomR 32) (s.data.toList ++ [41]) = .ok (q2, k2) := hm
    rw [hext] at hm'
    simp only [Except.ok.injEq, Prod.mk.injEq] at hm'
    obtain ⟨rfl, rfl⟩ := hm'
    rw [hP] at hg
    simp only at hg
    have hlen : (40 :: (s.data.toList ++ [41])).length = s.size + 2 := by simp
    have hat : atomR 32 (40 :: (s.data.toList ++ [41])) = .ok (n, (40 :: (s.data.toList ++ [41])).length) := by
      rw [hlen]
      by_cases h3 : seesB ((40 :: (s.data.toList ++ [41])).drop (s.size + 1)) 41 = true
      · rw [if_pos h3] at hg
        show groupR (patR (atomR 31)) (40 :: (s.data.toList ++ [41])) = _
        unfold groupR
        rw [hd1, hP]
        simp only
        rw [if_pos h3]
      · rw [if_neg h3] at hg
        simp at hg
    have := pat_single hat rfl (by decide) (by decide) (by decide) (by decide)
    rw [h2] at this
    simp only [Except.ok.injEq, Prod.mk.injEq] at this
    exact this.1
/-- One part alone. -/
theorem con_alone {A : List UInt8 → Except Nat (Pat × Nat)} {l : List UInt8} {p : Pat} {n : Nat} (h : patR A l = .ok (p, n)) (hp : p.op ≠ 2) : conR A l = .ok (p, n) := by
  have h' : rowR (conR A) 2 124 l = .ok (p, n) := h
  unfold rowR at h'
  cases h1 : conR A l with
  | error d => rw [h1] at h'; simp at h'
  | ok x =>
    obtain ⟨q, m⟩ := x
    rw [h1] at h'
    simp only at h'
    cases h2 : rowLoop (conR A) 124 (l.length + 1) (l.drop m) with
    | error d => rw [h2] at h'; simp at h'
    | ok y =>
      obtain ⟨ps, k⟩ := y
      rw [h2] at h'
      simp only [Except.ok.injEq, Prod.mk.injEq] at h'
      obtain ⟨rfl, rfl⟩ := h'
      cases ps with
      | cons a b => exact absurd rfl hp
      | nil =>
        have hk : k = 0 := by
          unfold rowLoop at h2
          by_cases hs : seesB (l.drop m) 124 = true
          · rw [if_pos hs] at h2
            cases h3 : conR A ((l.drop m).drop 1) with
            | error d => rw [h3] at h2; simp at h2
            | ok z =>
              obtain ⟨c, e⟩ := z
              rw [h3] at h2
              simp only at h2
              cases h4 : rowLoop (conR A) 124 l.length ((l.drop m).drop (e + 1)) with
              | error d => rw [h4] at h2; simp at h2
              | ok u =>
                obtain ⟨us, ue⟩ := u
                rw [h4] at h2
                simp at h2
          · rw [if_neg hs] at h2
            simp at h2
            exact h2.symm
        subst hk
        rfl
/-- Two texts with a bar between are an Alt of both. -/
theorem bar_alt {s t u : ByteArray} {n m v : Pat} (hs : wholeR s = .ok n) (ht : wholeR t = .ok m) (hn : n.op ≠ 2) (hm : m.op ≠ 2) (hu : u.data.toList = s.data.toList ++ (124 :: t.data.toList)) (hv : wholeR u = .ok v) : v = Pat.mk 2 0 0 0 [n, m] := by
  have c1 := con_alone (whole_ok hs).1 hn
  have c2 := con_alone (whole_ok ht).1 hm
  have hx := con_ext (atom_ext 32) (atomR_le 32) _ (124 :: t.data.toList) _ _ c1 (.inr ⟨124, _, rfl, .inr rfl⟩)
  have h2 := (whole_ok hv).1
  rw [hu] at h2
  have h' : rowR (conR (atomR 32)) 2 124 (s.data.toList ++ (124 :: t.data.toList)) = .ok (v, u.size) := h2
  have hsl : s.data.toList.length = s.size := str_len s
  have htl : t.data.toList.length = t.size := str_len t
  have hd : (s.data.toList ++ (124 :: t.data.toList)).drop s.size = 124 :: t.data.toList := by rw [← hsl, List.drop_left]
  have hd1 : (124 :: t.data.toList).drop 1 = t.data.toList := rfl
  have hd2 : (124 :: t.data.toList).drop (t.size + 1) = [] := by
    apply List.drop_eq_nil_of_le
    simp
  unfold rowR at h'
  rw [hx] at h'
  simp only at h'
  rw [hd] at h'
  have hloop : ∀ f, rowLoop (conR (atomR 32)) 124 (f + 2) (124 :: t.data.toList) = .ok ([m], t.size + 1) := by
    intro f
    unfold rowLoop
    rw [if_pos (by rfl), hd1, c2]
    simp only
    rw [hd2]
    rfl
  obtain ⟨f, hf⟩ : ∃ f, (s.data.toList ++ (124 :: t.data.toList)).length + 1 = f + 2 := ⟨(s.data.toList ++ t.data.toList).length, by simp; omega⟩
  rw [hf, hloop] at h'
  simp only [Except.ok.injEq, Prod.mk.injEq] at h'
  exact h'.1.symm
end Go.Proofs.YtkpfpegjapddfaaGreatDoor
