/- Texts that a proof rests on: Mathematics: what a partition keeps to; a mark, and a part. | The contract of minim.members: the states of a class. | Mathematics: how many classes; which classes hold a mark. | The contract of minim.split: the states of a list are parted from all others. | The contract of minim.newPartition: all states in one class. | The contract of minim.stripesOf: which bytes are alike in all arcs. | Mathematics: what a stripe is; one byte of it stands for all. | Mathematics: how states are come to, in a row; each by its state and stripe once. -/
import Derived.Test.YtamgldhnfcikbaaK15
set_option maxRecDepth 100000
namespace Go.Proofs.Ytamgldhnfcikbaa
open Go.RowKit

structure PI (n k : Nat) (O P C : Nat → Nat) (sp : Nat → Nat × Nat × Nat) : Prop where
  pl : ∀ s, s < n → P s < n ∧ O (P s) = s
  od : ∀ p, p < n → O p < n ∧ P (O p) = p
  cl : ∀ s, s < n → C s < k ∧ (sp (C s)).1 ≤ P s ∧ P s < (sp (C s)).2.2
  sz : ∀ c, c < k → (sp c).1 ≤ (sp c).2.1 ∧ (sp c).2.1 ≤ (sp c).2.2 ∧ (sp c).2.2 ≤ n ∧ (sp c).1 < (sp c).2.2
  inn : ∀ c, c < k → ∀ p, (sp c).1 ≤ p → p < (sp c).2.2 → C (O p) = c
def Mk (P C : Nat → Nat) (sp : Nat → Nat × Nat × Nat) (t : Nat) : Prop := P t < (sp (C t)).2.1
theorem PI.mark {n k : Nat} {O P C : Nat → Nat} {sp : Nat → Nat × Nat × Nat} (h : PI n k O P C sp) {s : Nat} (hs : s < n) (hu : ¬ Mk P C sp s) :
    PI n k (upd (upd O (P s) (O (sp (C s)).2.1)) (sp (C s)).2.1 s) (upd (upd P (O (sp (C s)).2.1) (P s)) s (sp (C s)).2.1) C (upd sp (C s) ((sp (C s)).1, (sp (C s)).2.1 + 1, (sp (C s)).2.2)) ∧
      ∀ t, t < n → (Mk (upd (upd P (O (sp (C s)).2.1) (P s)) s (sp (C s)).2.1) C (upd sp (C s) ((sp (C s)).1, (sp (C s)).2.1 + 1, (sp (C s)).2.2)) t ↔ Mk P C sp t ∨ t = s) := by
  obtain ⟨hp1, hp2⟩ := h.pl s hs
  obtain ⟨hc1, hc2, hc3⟩ := h.cl s hs
  obtain ⟨z1, z2, z3, z4⟩ := h.sz _ hc1
  unfold Mk at hu
  obtain ⟨c, hcc⟩ : ∃ c, C s = c := ⟨_, rfl⟩
  rw [hcc] at hc1 hc2 hc3 z1 z2 z3 z4 hu ⊢
  obtain ⟨m, hmm⟩ : ∃ m, (sp c).2.1 = m := ⟨_, rfl⟩
  rw [hmm] at z1 z2 hu ⊢
  obtain ⟨fr, hfr⟩ : ∃ fr, P s = fr := ⟨_, rfl⟩
  rw [hfr] at hp1 hp2 hc2 hc3 hu ⊢
  have hmn : m < n := by omega
  obtain ⟨o1, o2⟩ := h.od m hmn
  have hCo := h.inn c hc1 m z1 (by omega)
  obtain ⟨ot, hot⟩ : ∃ ot, O m = ot := ⟨_, rfl⟩
  rw [hot] at o1 o2 hCo ⊢
  have key : fr = m → ot = s := fun e => by rw [← hot, ← e]; exact hp2
  have key2 : ot = s → fr = m := fun e => by rw [← hfr, ← e]; exact o2
  refine ⟨⟨fun t ht => ?_, fun p hp => ?_, fun t ht => ?_, fun c' hc' => ?_, fun c' hc' p q1 q2 => ?_⟩, fun t ht => ?_⟩
  · by_cases e1 : t = s
    · subst e1
      rw [upd_same]
      exact ⟨hmn, upd_same _ _ _⟩
    · rw [upd_other _ _ e1]
      by_cases e2 : t = ot
      · subst e2
        rw [upd_same]
        refine ⟨hp1, ?_⟩
        rw [upd_other _ _ (fun e => e1 (key e)), upd_same]
      · rw [upd_other _ _ e2]
        obtain ⟨g1, g2⟩ := h.pl t ht
        refine ⟨g1, ?_⟩
        rw [upd_other _ _ (fun e => e2 (by rw [← g2, e, hot])), upd_other _ _ (fun e => e1 (by rw [← g2, e, hp2]))]
        exact g2
  · by_cases e1 : p = m
    · subst e1
      rw [upd_same]
      exact ⟨hs, upd_same _ _ _⟩
    · rw [upd_other _ _ e1]
      by_cases e2 : p = fr
      · subst e2
        rw [upd_same]
        refine ⟨o1, ?_⟩
        rw [upd_other _ _ (fun e => e1 (key2 e)), upd_same]
      · rw [upd_other _ _ e2]
        obtain ⟨g1, g2⟩ := h.od p hp
        refine ⟨g1, ?_⟩
        rw [upd_other _ _ (fun e => e2 (by rw [← g2, e, hfr])), upd_other _ _ (fun e => e1 (by rw [← g2, e, o2]))]
        exact g2
  · obtain ⟨g1, g2, g3⟩ := h.cl t ht
    refine ⟨g1, ?_⟩
    have hse : (upd sp c ((sp c).1, m + 1, (sp c).2.2) (C t)).1 = (sp (C t)).1 ∧ (upd sp c ((sp c).1, m + 1, (sp c).2.2) (C t)).2.2 = (sp (C t)).2.2 := by
      by_cases e : C t = c
      · rw [e, upd_same]; exact ⟨rfl, rfl⟩
      · rw [upd_other _ _ e]; exact ⟨rfl, rfl⟩
    rw [hse.1, hse.2]
    by_cases e1 : t = s
    · subst e1
      rw [upd_same, hcc]; exact ⟨by omega, by omega⟩
    · rw [upd_other _ _ e1]
      by_cases e2 : t = ot
      · subst e2
        rw [upd_same, hCo]; exact ⟨hc2, hc3⟩
      · rw [upd_other _ _ e2]; exact ⟨g2, g3⟩
  · by_cases e : c' = c
    · subst e
      rw [upd_same]
      exact ⟨by show (sp c').1 ≤ m + 1; omega, by show m + 1 ≤ (sp c').2.2; omega, z3, z4⟩
    · rw [upd_other _ _ e]; exact h.sz c' hc'
  · have hr : (sp c').1 ≤ p ∧ p < (sp c').2.2 := by
      by_cases e : c' = c
      · subst e; rw [upd_same] at q1 q2; exact ⟨q1, q2⟩
      · rw [upd_other _ _ e] at q1 q2; exact ⟨q1, q2⟩
    have h9 := h.inn c' hc' p hr.1 hr.2
    by_cases e1 : p = m
    · subst e1
      rw [upd_same, hcc, ← h9, hot, hCo]
    · rw [upd_other _ _ e1]
      by_cases e2 : p = fr
      · subst e2
        rw [upd_same, hCo, ← h9, hp2, hcc]
      · rw [upd_other _ _ e2]; exact h9
  · unfold Mk
    obtain ⟨g1, g2⟩ := h.pl t ht
    by_cases e1 : t = s
    · subst e1
      rw [upd_same, hcc, upd_same]
      exact ⟨fun _ => .inr rfl, fun _ => Nat.lt_succ_self m⟩
    · rw [upd_other _ _ e1]
      by_cases e2 : t = ot
      · subst e2
        rw [upd_same, hCo, upd_same, o2, hmm]
        constructor
        · intro hh
          have hh : fr < m + 1 := hh
          exact absurd (key (by omega)) e1
        · rintro (hh | hh)
          · omega
          · exact absurd hh e1
      · rw [upd_other _ _ e2]
        have hne : P t ≠ m := fun e => e2 (by rw [← g2, e, hot])
        by_cases e3 : C t = c
        · rw [e3, upd_same, hmm]
          constructor
          · intro hh
            have hh : P t < m + 1 := hh
            exact .inl (by omega)
          · rintro (hh | hh)
            · show P t < m + 1; omega
            · exact absurd hh e1
        · rw [upd_other _ _ e3]
          exact ⟨.inl, fun hh => hh.elim id fun e => absurd e e1⟩
theorem clsUp_at {n k : Nat} {O P C : Nat → Nat} (hpl : ∀ s, s < n → P s < n ∧ O (P s) = s) (hod : ∀ p, p < n → O p < n ∧ P (O p) = p) (p : Nat) : ∀ (i t : Nat), p + i ≤ n → t < n → clsUp O C k p i t = if p ≤ P t ∧ P t < p + i then k else C t
  | 0, t, _, _ => by rw [if_neg (by omega)]; rfl
  | i + 1, t, hi, ht => by
    show upd (clsUp O C k p i) (O (p + i)) k t = _
    by_cases e : t = O (p + i)
    · have := (hod (p + i) (by omega)).2
      rw [e, upd_same, this, if_pos ⟨by omega, by omega⟩]
    · rw [upd_other _ _ e, clsUp_at hpl hod p i t (by omega) ht]
      have hne : P t ≠ p + i := fun e2 => e (by rw [← e2, (hpl t ht).2])
      by_cases h1 : p ≤ P t ∧ P t < p + i
      · rw [if_pos h1, if_pos ⟨h1.1, by omega⟩]
      · rw [if_neg h1, if_neg (by omega)]
theorem moved_cases (x : Nat × Nat × Nat) :
    (keptOf x = (x.2.1, x.2.1, x.2.2) ∧ movedOf x = (x.1, x.1, x.2.1) ∧ x.2.1 - x.1 < x.2.2 - x.2.1) ∨ (keptOf x = (x.1, x.1, x.2.1) ∧ movedOf x = (x.2.1, x.2.1, x.2.2) ∧ x.2.2 - x.2.1 ≤ x.2.1 - x.1) := by
  unfold keptOf movedOf
  by_cases h : x.2.1 - x.1 < x.2.2 - x.2.1
  · rw [if_pos h, if_pos h]; exact .inl ⟨rfl, rfl, h⟩
  · rw [if_neg h, if_neg h]; exact .inr ⟨rfl, rfl, by omega⟩
theorem PI.same {n k : Nat} {O P C : Nat → Nat} {sp : Nat → Nat × Nat × Nat} (h : PI n k O P C sp) {c : Nat} (hc : c < k) (h0 : (movedOf (sp c)).2.2 - (movedOf (sp c)).1 = 0) :
    PI n k O P C (upd sp c (keptOf (sp c))) ∧ (∀ t, t < n → (Mk P C (upd sp c (keptOf (sp c))) t ↔ Mk P C sp t ∧ C t ≠ c)) ∧ ∀ t t', t < n → t' < n → C t = c → C t' = c → (Mk P C sp t ↔ Mk P C sp t') := by
  obtain ⟨z1, z2, z3, z4⟩ := h.sz c hc
  have hk : keptOf (sp c) = ((sp c).1, (sp c).1, (sp c).2.2) ∧ ((sp c).2.1 = (sp c).1 ∨ (sp c).2.1 = (sp c).2.2) := by
    rcases moved_cases (sp c) with ⟨a1, a2, a3⟩ | ⟨a1, a2, a3⟩
    · rw [a2] at h0
      have h0 : (sp c).2.1 - (sp c).1 = 0 := h0
      have e : (sp c).2.1 = (sp c).1 := by omega
      rw [a1, e]; exact ⟨rfl, .inl rfl⟩
    · rw [a2] at h0
      have h0 : (sp c).2.2 - (sp c).2.1 = 0 := h0
      have e : (sp c).2.1 = (sp c).2.2 := by omega
      rw [a1]; exact ⟨by rw [e], .inr e⟩
  rw [hk.1]
  refine ⟨⟨h.pl, h.od, fun s hs => ?_, fun c' hc' => ?_, fun c' hc' p q1 q2 => ?_⟩, fun t ht => ?_, fun t t' ht ht' e1 e2 => ?_⟩
  · have h9 := h.cl s hs
    by_cases e : C s = c
    · rw [e, upd_same]; rw [e] at h9; exact h9
    · rw [upd_other _ _ e]; exact h9
  · by_cases e : c' = c
    · subst e; rw [upd_same]; exact ⟨Nat.le_refl _, by show (sp c').1 ≤ (sp c').2.2; omega, z3, z4⟩
    · rw [upd_other _ _ e]; exact h.sz c' hc'
  · by_cases e : c' = c
    · subst e; rw [upd_same] at q1 q2; exact h.inn c' hc' p q1 q2
    · rw [upd_other _ _ e] at q1 q2; exact h.inn c' hc' p q1 q2
  · unfold Mk
    by_cases e : C t = c
    · rw [e, upd_same]
      have h9 := h.cl t ht
      rw [e] at h9
      constructor
      · intro hh
        have hh : P t < (sp c).1 := hh
        omega
      · exact fun hh => absurd rfl hh.2
    · rw [upd_other _ _ e]; exact ⟨fun hh => ⟨hh, e⟩, fun hh => hh.1⟩
  · unfold Mk
    have g1 := h.cl t ht
    have g2 := h.cl t' ht'
    rw [e1] at g1
    rw [e2] at g2
    rw [e1, e2]
    omega
theorem PI.part_aux {n k : Nat} {O P C C' : Nat → Nat} {sp : Nat → Nat × Nat × Nat} (h : PI n k O P C sp) {c b m e x1 x2 y1 y2 : Nat} (hc : c < k) (hb : (sp c).1 = b) (hm : (sp c).2.1 = m) (he : (sp c).2.2 = e)
    (hxy : (x1 = m ∧ x2 = e ∧ y1 = b ∧ y2 = m) ∨ (x1 = b ∧ x2 = m ∧ y1 = m ∧ y2 = e)) (hx : x1 < x2) (hy : y1 < y2) (hC' : ∀ t, t < n → C' t = if y1 ≤ P t ∧ P t < y2 then k else C t) :
    PI n (k + 1) O P C' (upd (upd sp c (x1, x1, x2)) k (y1, y1, y2)) ∧ (∀ t, t < n → (Mk P C' (upd (upd sp c (x1, x1, x2)) k (y1, y1, y2)) t ↔ Mk P C sp t ∧ C t ≠ c)) ∧
      (∀ t t', t < n → t' < n → (C' t = C' t' ↔ C t = C t' ∧ (C t = c → (Mk P C sp t ↔ Mk P C sp t')))) ∧ ∀ t, t < n → (C' t = C t ∨ C' t = k ∧ C t = c) := by
  obtain ⟨z1, z2, z3, z4⟩ := h.sz c hc
  rw [hb] at z1 z4
  rw [hm] at z1 z2
  rw [he] at z2 z3 z4
  have hck : c ≠ k := by omega
  -- what lies in the moved part belongs to c
  have hin : ∀ t, t < n → y1 ≤ P t → P t < y2 → C t = c := fun t ht h1 h2 => by
    have := h.inn c hc (P t) (by omega) (by omega)
    rwa [(h.pl t ht).2] at this
  have hrg : ∀ t, t < n → C t = c → b ≤ P t ∧ P t < e := fun t ht h1 => by
    have := h.cl t ht
    rw [h1, hb, he] at this; exact this.2
  have hlt : ∀ t, t < n → C t < k := fun t ht => (h.cl t ht).1
  have hmk : ∀ t, t < n → C t = c → (Mk P C sp t ↔ P t < m) := fun t ht h1 => by unfold Mk; rw [h1, hm]
  refine ⟨⟨h.pl, h.od, fun s hs => ?_, fun c' hc' => ?_, fun c' hc' p q1 q2 => ?_⟩, fun t ht => ?_, fun t t' ht ht' => ?_, fun t ht => ?_⟩
  · rw [hC' s hs]
    by_cases hs2 : y1 ≤ P s ∧ P s < y2
    · rw [if_pos hs2, upd_same]; exact ⟨by omega, hs2.1, hs2.2⟩
    · rw [if_neg hs2]
      have h9 := h.cl s hs
      rw [upd_other _ _ (show C s ≠ k by omega)]
      by_cases e1 : C s = c
      · have := hrg s hs e1
        rw [e1, upd_same]
        exact ⟨by omega, by show x1 ≤ P s; omega, by show P s < x2; omega⟩
      · rw [upd_other _ _ e1]; exact ⟨by omega, h9.2⟩
  · by_cases e1 : c' = k
    · subst e1; rw [upd_same]; exact ⟨Nat.le_refl _, by show y1 ≤ y2; omega, by show y2 ≤ n; omega, hy⟩
    · rw [upd_other _ _ e1]
      by_cases e2 : c' = c
      · subst e2; rw [upd_same]; exact ⟨Nat.le_refl _, by show x1 ≤ x2; omega, by show x2 ≤ n; omega, hx⟩
      · rw [upd_other _ _ e2]; exact h.sz c' (by omega)
  · have hp : p < n := by
      by_cases e1 : c' = k
      · subst e1; rw [upd_same] at q2; have q2 : p < y2 := q2; omega
      · rw [upd_other _ _ e1] at q2
        by_cases e2 : c' = c
        · subst e2; rw [upd_same] at q2; have q2 : p < x2 := q2; omega
        · rw [upd_other _ _ e2] at q2
          have := h.sz c' (by omega); omega
    obtain ⟨o1, o2⟩ := h.od p hp
    rw [hC' _ o1, o2]
    by_cases e1 : c' = k
    · subst e1; rw [upd_same] at q1 q2
      rw [if_pos ⟨q1, q2⟩]
    · rw [upd_other _ _ e1] at q1 q2
      by_cases e2 : c' = c
      · subst e2; rw [upd_same] at q1 q2
        have q1 : x1 ≤ p := q1
        have q2 : p < x2 := q2
        rw [if_neg (by omega)]
        exact h.inn c' hc p (by omega) (by omega)
      · rw [upd_other _ _ e2] at q1 q2
        have h9 := h.inn c' (by omega) p q1 q2
        rw [if_neg (fun hh => ?_)]
        · exact h9
        · have := hin (O p) o1 (by rw [o2]; exact hh.1) (by rw [o2]; exact hh.2)
          exact e2 (by rw [← h9, this])
  · unfold Mk
    rw [hC' t ht]
    by_cases hs2 : y1 ≤ P t ∧ P t < y2
    · rw [if_pos hs2, upd_same]
      constructor
      · intro hh
        have hh : P t < y1 := hh
        omega
      · exact fun hh => absurd (hin t ht hs2.1 hs2.2) hh.2
    · rw [if_neg hs2, upd_other _ _ (show C t ≠ k by have := hlt t ht; omega)]
      by_cases e1 : C t = c
      · have := hrg t ht e1
        rw [e1, upd_same]
        constructor
        · intro hh
          have hh : P t < x1 := hh
          omega
        · exact fun hh => absurd rfl hh.2
      · rw [upd_other _ _ e1]
        exact ⟨fun hh => ⟨hh, e1⟩, fun hh => hh.1⟩
  · rw [hC' t ht, hC' t' ht']
    have l1 := hlt t ht
    have l2 := hlt t' ht'
    by_cases a1 : y1 ≤ P t ∧ P t < y2 <;> by_cases a2 : y1 ≤ P t' ∧ P t' < y2
    · rw [if_pos a1, if_pos a2]
      have c1 := hin t ht a1.1 a1.2
      have c2 := hin t' ht' a2.1 a2.2
      rw [hmk t ht c1, hmk t' ht' c2]
      exact ⟨fun _ => ⟨by rw [c1, c2], fun _ => by omega⟩, fun _ => rfl⟩
    · rw [if_pos a1, if_neg a2]
      have c1 := hin t ht a1.1 a1.2
      constructor
      · intro hh; omega
      · rintro ⟨e1, e2⟩
        have c2 : C t' = c := by rw [← e1, c1]
        have e3 := e2 c1
        rw [hmk t ht c1, hmk t' ht' c2] at e3
        have r1 := hrg t ht c1
        have r2 := hrg t' ht' c2
        omega
    · rw [if_neg a1, if_pos a2]
      have c2 := hin t' ht' a2.1 a2.2
      constructor
      · intro hh; omega
      · rintro ⟨e1, e2⟩
        have c1 : C t = c := by rw [e1, c2]
        have e3 := e2 c1
        rw [hmk t ht c1, hmk t' ht' c2] at e3
        have r1 := hrg t ht c1
        have r2 := hrg t' ht' c2
        omega
    · rw [if_neg a1, if_neg a2]
      refine ⟨fun hh => ⟨hh, fun c1 => ?_⟩, fun hh => hh.1⟩
      have c2 : C t' = c := by rw [← hh, c1]
      rw [hmk t ht c1, hmk t' ht' c2]
      have r1 := hrg t ht c1
      have r2 := hrg t' ht' c2
      omega
  · rw [hC' t ht]
    by_cases a1 : y1 ≤ P t ∧ P t < y2
    · rw [if_pos a1]; exact .inr ⟨rfl, hin t ht a1.1 a1.2⟩
    · rw [if_neg a1]; exact .inl rfl
theorem PI.part {n k : Nat} {O P C : Nat → Nat} {sp : Nat → Nat × Nat × Nat} (h : PI n k O P C sp) {c : Nat} (hc : c < k) (h0 : 0 < (movedOf (sp c)).2.2 - (movedOf (sp c)).1) {C' : Nat → Nat}
    (hC' : C' = clsUp O C k (movedOf (sp c)).1 ((movedOf (sp c)).2.2 - (movedOf (sp c)).1)) :
    PI n (k + 1) O P C' (upd (upd sp c (keptOf (sp c))) k (movedOf (sp c))) ∧ (∀ t, t < n → (Mk P C' (upd (upd sp c (keptOf (sp c))) k (movedOf (sp c))) t ↔ Mk P C sp t ∧ C t ≠ c)) ∧
      (∀ t t', t < n → t' < n → (C' t = C' t' ↔ C t = C t' ∧ (C t = c → (Mk P C sp t ↔ Mk P C sp t')))) ∧ ∀ t, t < n → (C' t = C t ∨ C' t = k ∧ C t = c) := by
  obtain ⟨z1, z2, z3, z4⟩ := h.sz c hc
  rcases moved_cases (sp c) with ⟨a1, a2, a3⟩ | ⟨a1, a2, a3⟩
  · rw [a2] at h0 hC' ⊢
    rw [a1]
    have h0 : 0 < (sp c).2.1 - (sp c).1 := h0
    refine h.part_aux hc rfl rfl rfl (.inl ⟨rfl, rfl, rfl, rfl⟩) (by omega) (by omega) fun t ht => ?_
    rw [hC']
    show clsUp O C k (sp c).1 ((sp c).2.1 - (sp c).1) t = _
    rw [clsUp_at h.pl h.od _ _ _ (by omega) ht, show (sp c).1 + ((sp c).2.1 - (sp c).1) = (sp c).2.1 by omega]
  · rw [a2] at h0 hC' ⊢
    rw [a1]
    have h0 : 0 < (sp c).2.2 - (sp c).2.1 := h0
    refine h.part_aux hc rfl rfl rfl (.inr ⟨rfl, rfl, rfl, rfl⟩) (by omega) (by omega) fun t ht => ?_
    rw [hC']
    show clsUp O C k (sp c).2.1 ((sp c).2.2 - (sp c).2.1) t = _
    rw [clsUp_at h.pl h.od _ _ _ (by omega) ht, show (sp c).2.1 + ((sp c).2.2 - (sp c).2.1) = (sp c).2.2 by omega]
end Go.Proofs.Ytamgldhnfcikbaa
set_option maxRecDepth 100000
namespace Go.Proofs.Ytamgldhnfcikbaa
open Go.RowKit

def membersOf (O : Nat → Nat) (x : Nat × Nat × Nat) : List Nat := (List.range (x.2.2 - x.1)).map fun i => O (x.1 + i)
theorem membersOf_len (O : Nat → Nat) (x : Nat × Nat × Nat) : (membersOf O x).length = x.2.2 - x.1 := by simp [membersOf]
theorem PI.members {n k : Nat} {O P C : Nat → Nat} {sp : Nat → Nat × Nat × Nat} (h : PI n k O P C sp) {c : Nat} (hc : c < k) (t : Nat) : t ∈ membersOf O (sp c) ↔ t < n ∧ C t = c := by
  obtain ⟨z1, z2, z3, z4⟩ := h.sz c hc
  unfold membersOf
  rw [List.mem_map]
  constructor
  · rintro ⟨i, hi, rfl⟩
    rw [List.mem_range] at hi
    exact ⟨(h.od _ (by omega)).1, h.inn c hc _ (by omega) (by omega)⟩
  · rintro ⟨ht, hC⟩
    have h1 := h.cl t ht
    rw [hC] at h1
    refine ⟨P t - (sp c).1, by rw [List.mem_range]; omega, ?_⟩
    rw [show (sp c).1 + (P t - (sp c).1) = P t by omega]
    exact (h.pl t ht).2
set_option linter.unusedSimpArgs false in
set_option maxHeartbeats 4000000 in
theorem pmembers_any (bp B n k go gp gc gs co cp cc cs c : Nat) (O P C : Nat → Nat) (sp : Nat → Nat × Nat × Nat) (w : World) (h : PA w bp B n k go gp gc gs co cp cc cs O P C sp) (hc : c < k) (h1 : (sp c).1 < (sp c).2.2) (h3 : (sp c).2.2 ≤ n) :
    Calls Try.prog 63 #[.pointer (some ⟨bp, 0, none⟩), .int .i64 c] w fun e w' => (∃ u, e = .returned u ∧ Hid (∀ wr, PA wr bp B n k go gp gc gs co cp cc cs O P C sp → IntsIn wr u (membersOf O (sp c)))) ∧ Hid (Below w.heap.size w w') := by
  have mixed : Try.prog.follows .mixedOrders = true := by kernel_rfl
  have e3 : w.cell? ⟨bp, 3, none⟩ = some (.slice (some ⟨gs, 0, none⟩) k cs) := (cell_of_row w bp 3 _ _ _ h.blk).trans rfl
  obtain ⟨c0, c1, c2⟩ := cell_span h hc
  have hcap := row_cap h.ro
  have HM := Lib.hid (show ∀ wr, PA wr bp B n k go gp gc gs co cp cc cs O P C sp → IntsIn wr (.slice (some ⟨go, (sp c).1, none⟩) ((sp c).2.2 - (sp c).1) (co - (sp c).1)) (membersOf O (sp c)) from fun wr hw => by
    refine ⟨_, _, by rw [membersOf_len], fun i hi => ?_⟩
    rw [membersOf_len] at hi
    refine ⟨go, (sp c).1, rfl, ?_⟩
    rw [hw.ro.cellAt _ (by omega), natsV_at O (by omega)]
    simp [membersOf])
  obtain ⟨b, hb⟩ : ∃ b, (sp c).1 = b := ⟨_, rfl⟩
  obtain ⟨m, hm⟩ : ∃ m, (sp c).2.1 = m := ⟨_, rfl⟩
  obtain ⟨e, he⟩ : ∃ e, (sp c).2.2 = e := ⟨_, rfl⟩
  rw [hb] at c0 h1 HM
  rw [hm] at c1
  rw [he] at c2 h1 h3 HM
  have i1 : (c : Int) < k := by omega
  obtain ⟨N, hN⟩ : ∃ N, w.heap.size = N := ⟨_, rfl⟩
  obtain ⟨w1, hw1⟩ : ∃ w1, w.alloc (.cells #[.int .i64 b, .int .i64 m, .int .i64 e] 106) = w1 := ⟨_, rfl⟩
  have hx1 : w1.heap[N]? = some (.cells #[.int .i64 b, .int .i64 m, .int .i64 e] 106 (0, 0)) := by rw [← hw1, ← hN]; exact heap_alloc_new w _
  have d0 : w1.cell? ⟨N, 0, none⟩ = some (.int .i64 b) := (cell_of_row w1 N 0 _ _ _ hx1).trans rfl
  have d2 : w1.cell? ⟨N, 2, none⟩ = some (.int .i64 e) := (cell_of_row w1 N 2 _ _ _ hx1).trans rfl
  have hb1 : Below w.heap.size w w1 := by rw [← hw1]; exact new_one w _
  have HB1 := Lib.hid hb1
  have p0 : w1.cell? ⟨bp, 0, none⟩ = some (.slice (some ⟨go, 0, none⟩) n co) := (cell_of_row w1 bp 0 _ _ _ ((hb1.block bp (lt_of_block h.blk)).trans h.blk)).trans rfl
  have q1 : (b : Int) ≤ e := by omega
  have q2 : (e : Int) ≤ co := by omega
  have q3 : co ≠ b := by omega
  have q4 : (co : Int) ≠ b := by omega
  clear h hx1 hb1
  go_enter Try.func63, Try.ntmps63
  go_upto_region 2 with fail
  clear hw1
  go_quiet (fail)
  have hb2 := below_drewN w1 nq
  go_wp2
  exact bodyPost_ret (v := .slice (some ⟨go, b, none⟩) (e - b) (co - b)) (by simp [results, Try.results63, go_sem, q3]) rfl ⟨⟨_, rfl, HM⟩, Lib.hid (by exact HB1.out.trans (hb2.mono HB1.out.size))⟩
end Go.Proofs.Ytamgldhnfcikbaa
set_option maxRecDepth 100000
namespace Go.Proofs.Ytamgldhnfcikbaa
open Go.RowKit

theorem PI.le {n k : Nat} {O P C : Nat → Nat} {sp : Nat → Nat × Nat × Nat} (h : PI n k O P C sp) : k ≤ n := by
  have h1 := nodup_nat_le n ((List.range k).map fun c => (sp c).1) (by
    rw [List.Nodup, List.pairwise_map]
    refine List.Pairwise.imp_of_mem ?_ (List.nodup_range (n := k))
    intro a b ha hb hne e
    rw [List.mem_range] at ha hb
    have ia := h.inn a ha (sp a).1 (Nat.le_refl _) (h.sz a ha).2.2.2
    have ib := h.inn b hb (sp b).1 (Nat.le_refl _) (h.sz b hb).2.2.2
    rw [e, ib] at ia
    exact hne ia.symm) (fun x hx => by
    obtain ⟨c, hc, rfl⟩ := List.mem_map.1 hx
    rw [List.mem_range] at hc
    have := h.sz c hc; omega)
  simpa using h1
theorem PI.touched {n k : Nat} {O P C : Nat → Nat} {sp : Nat → Nat × Nat × Nat} (h : PI n k O P C sp) {c : Nat} (hc : c < k) : (sp c).2.1 ≠ (sp c).1 ↔ ∃ t, t < n ∧ C t = c ∧ Mk P C sp t := by
  obtain ⟨z1, z2, z3, z4⟩ := h.sz c hc
  constructor
  · intro hne
    have hi := h.inn c hc (sp c).1 (Nat.le_refl _) z4
    obtain ⟨o1, o2⟩ := h.od (sp c).1 (by omega)
    refine ⟨_, o1, hi, ?_⟩
    unfold Mk
    rw [o2, hi]; omega
  · rintro ⟨t, ht, e, hm⟩
    unfold Mk at hm
    have := h.cl t ht
    rw [e] at hm this
    omega
structure SM (n k : Nat) (O P C : Nat → Nat) (sp : Nat → Nat × Nat × Nat) (l T : List Nat) : Prop where
  pi : PI n k O P C sp
  mkd : ∀ t, t < n → (Mk P C sp t ↔ t ∈ l)
  tin : ∀ c, c ∈ T ↔ ∃ t, t ∈ l ∧ t < n ∧ C t = c
  nd : T.Nodup
theorem SM.step {n k : Nat} {O P C : Nat → Nat} {sp : Nat → Nat × Nat × Nat} {l T T' : List Nat} (h : SM n k O P C sp l T) {s : Nat} (hs : s < n) (hn : s ∉ l)
    (hT : T' = if (sp (C s)).2.1 = (sp (C s)).1 then T ++ [C s] else T) :
    SM n k (upd (upd O (P s) (O (sp (C s)).2.1)) (sp (C s)).2.1 s) (upd (upd P (O (sp (C s)).2.1) (P s)) s (sp (C s)).2.1) C (upd sp (C s) ((sp (C s)).1, (sp (C s)).2.1 + 1, (sp (C s)).2.2)) (l ++ [s]) T' := by
  obtain ⟨h1, h2⟩ := h.pi.mark hs (fun hm => hn ((h.mkd s hs).1 hm))
  have hc := (h.pi.cl s hs).1
  have ht := h.pi.touched hc
  refine ⟨h1, fun t htn => ?_, fun c => ?_, ?_⟩
  · rw [h2 t htn, h.mkd t htn, List.mem_append, List.mem_singleton]
  · have hin : c ∈ T' ↔ c ∈ T ∨ c = C s := by
      rw [hT]
      by_cases e : (sp (C s)).2.1 = (sp (C s)).1
      · rw [if_pos e, List.mem_append, List.mem_singleton]
      · rw [if_neg e]
        obtain ⟨t, a1, a2, a3⟩ := ht.1 e
        have : C s ∈ T := (h.tin _).2 ⟨t, (h.mkd t a1).1 a3, a1, a2⟩
        exact ⟨.inl, fun hh => hh.elim id fun e2 => e2 ▸ this⟩
    rw [hin, h.tin]
    constructor
    · rintro (⟨t, a1, a2, a3⟩ | rfl)
      · exact ⟨t, List.mem_append_left _ a1, a2, a3⟩
      · exact ⟨s, by simp, hs, rfl⟩
    · rintro ⟨t, a1, a2, a3⟩
      rcases List.mem_append.1 a1 with a1 | a1
      · exact .inl ⟨t, a1, a2, a3⟩
      · rw [List.mem_singleton] at a1; subst a1; exact .inr a3.symm
  · rw [hT]
    by_cases e : (sp (C s)).2.1 = (sp (C s)).1
    · rw [if_pos e, List.nodup_append]
      refine ⟨h.nd, by simp, fun a ha b hb => ?_⟩
      rw [List.mem_singleton] at hb
      subst hb
      intro e2
      subst e2
      obtain ⟨t, a1, a2, a3⟩ := (h.tin _).1 ha
      exact ht.2 ⟨t, a2, a3, (h.mkd t a2).2 a1⟩ e
    · rw [if_neg e]; exact h.nd
structure SP (n k k' : Nat) (O P C C' : Nat → Nat) (sp : Nat → Nat × Nat × Nat) (l T : List Nat) : Prop where
  pi : PI n k' O P C' sp
  kk : k ≤ k'
  eq : ∀ t t', t < n → t' < n → (C' t = C' t' ↔ C t = C t' ∧ (C t ∈ T → (t ∈ l ↔ t' ∈ l)))
  mkd : ∀ t, t < n → (Mk P C' sp t ↔ t ∈ l ∧ C t ∉ T)
  or : ∀ t, t < n → C t < k ∧ (C' t = C t ∨ k ≤ C' t ∧ C t ∈ T)
theorem SM.parts {n k : Nat} {O P C : Nat → Nat} {sp : Nat → Nat × Nat × Nat} {l T : List Nat} (h : SM n k O P C sp l T) : SP n k k O P C C sp l [] :=
  ⟨h.pi, Nat.le_refl _, fun t t' _ _ => ⟨fun e => ⟨e, fun hh => by cases hh⟩, fun e => e.1⟩, fun t ht => by rw [h.mkd t ht]; exact ⟨fun hh => ⟨hh, fun h2 => by cases h2⟩, fun hh => hh.1⟩, fun t ht => ⟨(h.pi.cl t ht).1, .inl rfl⟩⟩
theorem SP.own {n k k' : Nat} {O P C C' : Nat → Nat} {sp : Nat → Nat × Nat × Nat} {l T : List Nat} (h : SP n k k' O P C C' sp l T) {c : Nat} (hc : c < k) (hT : c ∉ T) {t : Nat} (ht : t < n) : C' t = c ↔ C t = c := by
  obtain ⟨_, h2⟩ := h.or t ht
  constructor
  · intro e
    rcases h2 with h2 | ⟨h2, _⟩
    · rw [← h2]; exact e
    · omega
  · intro e
    rcases h2 with h2 | ⟨_, h2⟩
    · rw [h2]; exact e
    · rw [e] at h2; exact absurd h2 hT
theorem SP.same {n k k' : Nat} {O P C C' : Nat → Nat} {sp : Nat → Nat × Nat × Nat} {l T : List Nat} (h : SP n k k' O P C C' sp l T) {c : Nat} (hc : c < k) (hT : c ∉ T) (h0 : (movedOf (sp c)).2.2 - (movedOf (sp c)).1 = 0) :
    SP n k k' O P C C' (upd sp c (keptOf (sp c))) l (T ++ [c]) := by
  have hck := h.kk
  obtain ⟨a1, a2, a3⟩ := h.pi.same (show c < k' by omega) h0
  refine ⟨a1, h.kk, fun t t' ht ht' => ?_, fun t ht => ?_, fun t ht => ?_⟩
  · rw [h.eq t t' ht ht']
    constructor
    · rintro ⟨e1, e2⟩
      refine ⟨e1, fun hm => ?_⟩
      rcases List.mem_append.1 hm with hm | hm
      · exact e2 hm
      · rw [List.mem_singleton] at hm
        have b1 := (h.own hc hT ht).2 hm
        have b2 := (h.own hc hT ht').2 (e1 ▸ hm)
        have b3 := a3 t t' ht ht' b1 b2
        rw [h.mkd t ht, h.mkd t' ht', ← e1, hm] at b3
        exact ⟨fun hl => (b3.1 ⟨hl, hT⟩).1, fun hl => (b3.2 ⟨hl, hT⟩).1⟩
    · rintro ⟨e1, e2⟩
      exact ⟨e1, fun hm => e2 (List.mem_append_left _ hm)⟩
  · rw [a2 t ht, h.mkd t ht, List.mem_append, List.mem_singleton, not_or, and_assoc, Ne, h.own hc hT ht]
  · obtain ⟨b1, b2⟩ := h.or t ht
    exact ⟨b1, b2.imp_right fun hh => ⟨hh.1, List.mem_append_left _ hh.2⟩⟩
theorem SP.part {n k k' : Nat} {O P C C' C2 : Nat → Nat} {sp : Nat → Nat × Nat × Nat} {l T : List Nat} (h : SP n k k' O P C C' sp l T) {c : Nat} (hc : c < k) (hT : c ∉ T) (h0 : 0 < (movedOf (sp c)).2.2 - (movedOf (sp c)).1)
    (hC : C2 = clsUp O C' k' (movedOf (sp c)).1 ((movedOf (sp c)).2.2 - (movedOf (sp c)).1)) :
    SP n k (k' + 1) O P C C2 (upd (upd sp c (keptOf (sp c))) k' (movedOf (sp c))) l (T ++ [c]) := by
  have hck := h.kk
  obtain ⟨a1, a2, a3, a4⟩ := h.pi.part (show c < k' by omega) h0 hC
  refine ⟨a1, by omega, fun t t' ht ht' => ?_, fun t ht => ?_, fun t ht => ?_⟩
  · rw [a3 t t' ht ht', h.eq t t' ht ht']
    constructor
    · rintro ⟨⟨e1, e2⟩, e3⟩
      refine ⟨e1, fun hm => ?_⟩
      rcases List.mem_append.1 hm with hm | hm
      · exact e2 hm
      · rw [List.mem_singleton] at hm
        have b3 := e3 ((h.own hc hT ht).2 hm)
        rw [h.mkd t ht, h.mkd t' ht', ← e1, hm] at b3
        exact ⟨fun hl => (b3.1 ⟨hl, hT⟩).1, fun hl => (b3.2 ⟨hl, hT⟩).1⟩
    · rintro ⟨e1, e2⟩
      refine ⟨⟨e1, fun hm => e2 (List.mem_append_left _ hm)⟩, fun hm => ?_⟩
      have b1 := (h.own hc hT ht).1 hm
      have b2 := e2 (by rw [b1]; simp)
      rw [h.mkd t ht, h.mkd t' ht', ← e1, b2]
  · rw [a2 t ht, h.mkd t ht, List.mem_append, List.mem_singleton, not_or, and_assoc, Ne, h.own hc hT ht]
  · obtain ⟨b1, b2⟩ := h.or t ht
    refine ⟨b1, ?_⟩
    rcases a4 t ht with e | ⟨e1, e2⟩
    · rw [e]
      exact b2.imp_right fun hh => ⟨hh.1, List.mem_append_left _ hh.2⟩
    · have := (h.own hc hT ht).1 e2
      exact .inr ⟨by omega, by rw [this]; simp⟩
structure SplitR (n k k' : Nat) (O P C C' : Nat → Nat) (sp : Nat → Nat × Nat × Nat) (l : List Nat) : Prop where
  pi : PI n k' O P C' sp
  kk : k ≤ k'
  eq : ∀ t t', t < n → t' < n → (C' t = C' t' ↔ C t = C t' ∧ (t ∈ l ↔ t' ∈ l))
  un : ∀ t, t < n → ¬ Mk P C' sp t
  or : ∀ t, t < n → C' t = C t ∨ k ≤ C' t
theorem SP.done {n k k' : Nat} {O P C C' : Nat → Nat} {sp : Nat → Nat × Nat × Nat} {l T : List Nat} (h : SP n k k' O P C C' sp l T) (hT : ∀ c, c ∈ T ↔ ∃ t, t ∈ l ∧ t < n ∧ C t = c) : SplitR n k k' O P C C' sp l := by
  refine ⟨h.pi, h.kk, fun t t' ht ht' => ?_, fun t ht hm => ?_, fun t ht => (h.or t ht).2.imp_right fun hh => hh.1⟩
  · rw [h.eq t t' ht ht']
    constructor
    · rintro ⟨e1, e2⟩
      refine ⟨e1, ?_⟩
      by_cases hm : C t ∈ T
      · exact e2 hm
      · exact ⟨fun hl => absurd ((hT _).2 ⟨t, hl, ht, rfl⟩) hm, fun hl => absurd ((hT _).2 ⟨t', hl, ht', e1.symm⟩) hm⟩
    · exact fun hh => ⟨hh.1, fun _ => hh.2⟩
  · have h1 := (h.mkd t ht).1 hm
    exact h1.2 ((hT _).2 ⟨t, h1.1, ht, rfl⟩)
end Go.Proofs.Ytamgldhnfcikbaa
set_option maxRecDepth 100000
namespace Go.Proofs.Ytamgldhnfcikbaa
open Go.RowKit

def OwnQ (bp go gp gc gs : Nat) (q : Nat) : Prop := q = bp ∨ q = go ∨ q = gp ∨ q = gc ∨ q = gs
def SplitP (w w' : World) (bp B n k go gp gc gs co cp cc : Nat) (C : Nat → Nat) (l : List Nat) : Prop :=
  ∃ k' gs' cs' O' P' C' sp', (gs' = gs ∨ w.heap.size ≤ gs') ∧ PA w' bp B n k' go gp gc gs' co cp cc cs' O' P' C' sp' ∧ SplitR n k k' O' P' C C' sp' l
theorem notin_take {l : List Nat} (h : l.Nodup) {i : Nat} (hi : i < l.length) : l[i] ∉ l.take i := by
  intro hm
  obtain ⟨j, hj, e⟩ := List.mem_iff_getElem.1 hm
  rw [List.length_take] at hj
  rw [List.getElem_take] at e
  have := (List.getElem_inj (h₀ := by omega) (h₁ := hi) h).1 e
  omega
set_option linter.unusedSimpArgs false in
set_option maxHeartbeats 8000000 in
theorem psplit_any (bp B n k go gp gc gs co cp cc cs : Nat) (O P C : Nat → Nat) (sp : Nat → Nat × Nat × Nat) (l : List Nat) (vl : Value) (w : World) (h : PA w bp B n k go gp gc gs co cp cc cs O P C sp) (hpi : PI n k O P C sp) (hun : ∀ t, t < n → ¬ Mk P C sp t) (hn : n ≤ 4096) (hbig : B ≤ w.heap.size)
    (hl : ∀ wr, Oth w wr (OwnQ bp go gp gc gs) → IntsIn wr vl l) (hnd : l.Nodup) (hx : ∀ s ∈ l, s < n) :
    Calls Try.prog 48 #[.pointer (some ⟨bp, 0, none⟩), vl] w fun e w' => e = .returned (.tuple #[]) ∧ Hid (SplitP w w' bp B n k go gp gc gs co cp cc C l) ∧ Hid (Oth w w' (OwnQ bp go gp gc gs)) := by
  have mixed : Try.prog.follows .mixedOrders = true := by kernel_rfl
  obtain ⟨i0, hi0, hz0, hz1, hz2⟩ := info_parts infoI
  have HI := Lib.hid (And.intro hi0 (And.intro hz0 (And.intro hz1 hz2)))
  clear hi0 hz0 hz1 hz2
  have hlen : l.length ≤ n := nodup_nat_le n l hnd hx
  obtain ⟨N, hN⟩ : ∃ N, w.heap.size = N := ⟨_, rfl⟩
  have HLT := Lib.hid (show bp < N ∧ go < N ∧ gp < N ∧ gc < N ∧ gs < N from by
    rw [← hN]
    exact ⟨lt_of_block h.blk, (h.ro.lt go rfl).2, (h.rp.lt gp rfl).2, (h.rc.lt gc rfl).2, (h.rs.lt gs rfl).2⟩)
  have HL := Lib.hid hl
  have HX := Lib.hid hx
  have HND := Lib.hid hnd
  have HP0 := Lib.hid h
  have HM0 : Hid (SM n k O P C sp (l.take 0) []) := Lib.hid ⟨hpi, fun t ht => ⟨fun hm => absurd hm (hun t ht), fun hm => by simp at hm⟩, fun c => by simp, by simp⟩
  have HR0 : Hid (w.ownsRow N 3 1 (.slice none 0 0) ([] : List Nat).length (natsL [])) := Lib.hid (World.ownsRow_nil _ _ _ _)
  have HO0 : Hid (Oth w w (OwnQ bp go gp gc gs)) := Lib.hid (Oth.refl _ _)
  obtain ⟨av, cv, rfl, _⟩ := hl w HO0.out
  clear h hpi hun hl hx hnd
  have HNw := Lib.hid hN
  rw [hN] at hbig
  clear hN
  go_enter Try.func48, Try.ntmps48
  go_wp2
  go_loopw [4, 12] (fun vt z wr => ∃ (i : Nat) (O' P' : Nat → Nat) (sp' : Nat → Nat × Nat × Nat) (T : List Nat), z = .int .i64 i ∧ i ≤ l.length ∧ T.length ≤ i ∧ Hid (PA wr bp B n k go gp gc gs co cp cc cs O' P' C sp') ∧ Hid (SM n k O' P' C sp' (l.take i) T) ∧ Hid (wr.ownsRow N 3 1 vt T.length (natsL T)) ∧ Hid (Oth w wr (OwnQ bp go gp gc gs))) (fun _ z _ => l.length - (intOf z).toNat)
  case atStart => exact ⟨0, O, P, sp, [], rfl, Nat.zero_le _, Nat.le_refl _, HP0, HM0, HR0, HO0⟩
  case round =>
    clear HP0 HM0 HR0 HO0
    obtain ⟨i, O, P, sp, T, rfl, hi, hTi, HP, HM, HR, HO⟩ := hrel
    by_cases hlt : i < l.length
    · have hd : decide ((i : Int) < l.length) = true := decide_eq_true (by omega)
      have hil : (i : Int) < l.length := by omega
      obtain ⟨a9, c9, e9, hcell⟩ := HL.out wr HO.out
      cases e9
      obtain ⟨b9, o9, rfl, e0⟩ := hcell i hlt
      have hsn := HX.out _ (List.getElem_mem hlt)
      have hni := notin_take HND.out hlt
      have HTK := Lib.hid (show l.take (i + 1) = l.take i ++ [l[i]] from List.take_succ_eq_append_getElem hlt)
      generalize l[i] = s at *
      have hsnl : (s : Int) < n := by omega
      have hum : ¬ Mk P C sp s := fun hm => hni ((HM.out.mkd s hsn).1 hm)
      obtain ⟨hC1, hC2, hC3⟩ := HM.out.pi.cl s hsn
      obtain ⟨z1, z2, z3, z4⟩ := HM.out.pi.sz _ hC1
      unfold Mk at hum
      have HMK := Lib.hid (fun W5 (h5 : PA W5 bp B n k go gp gc gs co cp cc cs O P C sp) => pmark_any bp B n k go gp gc gs co cp cc cs s O P C sp W5 h5 hsn hn hC1 (by omega) (HM.out.pi.pl s hsn).1 (HM.out.pi.od _ (by omega)).1)
      have HST := Lib.hid (fun T' hT => HM.out.step (T' := T') hsn hni hT)
      rw [← HTK.out] at HST
      have e2 : wr.cell? ⟨bp, 2, none⟩ = some (.slice (some ⟨gc, 0, none⟩) n cc) := (cell_of_row wr bp 2 _ _ _ HP.out.blk).trans rfl
      have e3 : wr.cell? ⟨bp, 3, none⟩ = some (.slice (some ⟨gs, 0, none⟩) k cs) := (cell_of_row wr bp 3 _ _ _ HP.out.blk).trans rfl
      have e4 : wr.cell? ⟨gc, s, none⟩ = some (.int .i64 (C s : Nat)) := by rw [HP.out.rc.cellAt s (by omega), natsV_at C hsn]
      obtain ⟨y0, y1, y2⟩ := cell_span HP.out hC1
      obtain ⟨c, hcc⟩ : ∃ c, C s = c := ⟨_, rfl⟩
      rw [hcc] at e4 y0 y1 HST
      have hck : (c : Int) < k := by omega
      clear hcell y2 HTK
      by_cases hmb : (sp c).2.1 = (sp c).1
      · have hq : (((sp c).2.1 : Int) == ((sp c).1 : Nat)) = true := by rw [hmb]; exact beq_self_eq_true _
        have HS2 := Lib.hid (HST.out (T ++ [c]) (by rw [if_pos hmb]))
        obtain ⟨ln, hln⟩ : ∃ ln, T.length = ln := ⟨_, rfl⟩
        rw [hln] at HR hTi
        obtain ⟨a3, cp3, rfl⟩ := row_form HR.out
        obtain ⟨mm, hmm⟩ : ∃ mm, (sp c).2.1 = mm := ⟨_, rfl⟩
        obtain ⟨bb, hbb⟩ : ∃ bb, (sp c).1 = bb := ⟨_, rfl⟩
        rw [hmm] at hq y1 hmb
        rw [hbb] at hq y0 hmb
        clear hmm hbb
        go_upto_region 5 with fail
        go_quiet (fail)
        revert nq
        intro n1
        obtain ⟨w1, hw1⟩ : ∃ w1, wr.drewN n1 = w1 := ⟨_, rfl⟩
        have HP1 := Lib.hid (HP.out.keep2 (w' := w1) fun q _ => by rw [← hw1]; rfl)
        have HR1 := Lib.hid (row_same (w' := w1) HR.out fun q _ => by rw [← hw1]; rfl)
        have HO1 := Lib.hid (HO.out.trans (Oth.of_below (S := OwnQ bp go gp gc gs) (show Below wr.heap.size wr w1 from by rw [← hw1]; exact below_drewN wr n1)) (fun _ _ h => h))
        rw [hw1]
        clear hw1 e0 e2 e3 e4 y0 y1 HP HR HO hq
        have hNW : N ≤ w1.heap.size := by have := HO1.out.size; have := HNw.out; omega
        have HRA := Lib.hid (HR1.out.alloc (.cells #[.int .i64 c] 3))
        have hxn := heap_alloc_new w1 (.cells #[.int .i64 c] 3)
        have HB6 := Lib.hid (new_one w1 (.cells #[.int .i64 c] 3))
        have HP6 := Lib.hid (HP1.out.keep2 (w' := w1.alloc (.cells #[.int .i64 c] 3)) fun q hq => HB6.out.block q (by have := HLT.out; rcases hq with e | e | e | e | e <;> omega))
        have HP8 := Lib.hid (show ∀ w8, (w1.alloc (.cells #[.int .i64 c] 3)).grownBy w8 (Value.slice a3 ln cp3).ownBlock → PA w8 bp B n k go gp gc gs co cp cc cs O P C sp from fun w8 h3 => HP6.out.keep2 fun q hq => h3.block q (by have := HLT.out; have := HB6.out.size; rcases hq with e | e | e | e | e <;> omega) (fun e9 => by have := HLT.out; have := (HR1.out.lt q e9.symm).1; rcases hq with e | e | e | e | e <;> omega))
        have HO8 := Lib.hid (show ∀ w8, (w1.alloc (.cells #[.int .i64 c] 3)).grownBy w8 (Value.slice a3 ln cp3).ownBlock → Oth w w8 (OwnQ bp go gp gc gs) from fun w8 h3 => (HO1.out.trans (Oth.of_below (S := OwnQ bp go gp gc gs) HB6.out) (fun _ _ h => h)).trans (Oth.of_gb (S := fun q => N ≤ q) h3 fun q e => (HR1.out.lt q e).1) (fun q hq _ h9 => by have := HNw.out; omega))
        have hLN := Lib.hid hln
        clear hln
        go_wp2_with (at_builtin; refine wpList_append_lies _ rfl _ _ 44 rfl N 3 i0 (.int .i64 0) 1 8 Try.underlying44 HI.out.1 HI.out.2.1 HI.out.2.2.1 HI.out.2.2.2 rfl (by decide) (.slice a3 ln cp3) ln (natsL T) rfl HRA.out ⟨w1.heap.size, 0, none⟩ 1 1 [.int .i64 c] rfl rfl (one_newsI hxn) (by simp [Value.oneCell']) (by omega) (by unfold maxLen; omega) (by omega) (by simp; omega) (w1.heap.size + 1) (by simp) ?_; intro g9 cap2 w8 h2 h3 h4 h5)
        go_wp2_with (go_at_call 61; refine (HMK.out w8 (HP8.out w8 h3)).mono ?_; rintro x9 w5 ⟨rfl, hp5, ho5⟩)
        have HR8 := Lib.hid h2
        have HRT : Hid (w5.ownsRow N 3 1 (.slice (some ⟨g9, 0, none⟩) (ln + 1) cap2) (T ++ [c]).length (natsL (T ++ [c]))) := Lib.hid (by
          rw [List.length_append, List.length_singleton, hLN.out, show natsL (T ++ [c]) = natsL T ++ [.int .i64 c] by simp [natsL]]
          exact row_same HR8.out fun q e => ho5.out.block q (HR8.out.lt q e).2 (fun h9 => by have := HLT.out; have := (HR8.out.lt q e).1; rcases h9 with h9 | h9 | h9 <;> omega))
        have HO5 : Hid (Oth w w5 (OwnQ bp go gp gc gs)) := Lib.hid ((HO8.out w8 h3).trans ho5.out fun q _ h9 h8 => h9 (h8.elim (fun e => .inr (.inl e)) fun h8 => h8.elim (fun e => .inr (.inr (.inl e))) fun e => .inr (.inr (.inr (.inr e)))))
        rw [hcc] at hp5
        clear h2 h3 h4 h5 HP8 HO8 ho5
        go_roundw
        case rel => exact ⟨i + 1, _, _, _, T ++ [c], num_succ i, by omega, by rw [List.length_append, hLN.out]; simp; omega, hp5, HS2, HRT, HO5⟩
        case measure => simp [intOf]; omega
      · have hq : (((sp c).2.1 : Int) == ((sp c).1 : Nat)) = false := by rw [beq_eq_false_iff_ne]; omega
        have HS2 := Lib.hid (HST.out T (by rw [if_neg hmb]))
        obtain ⟨mm, hmm⟩ : ∃ mm, (sp c).2.1 = mm := ⟨_, rfl⟩
        obtain ⟨bb, hbb⟩ : ∃ bb, (sp c).1 = bb := ⟨_, rfl⟩
        rw [hmm] at hq y1
        rw [hbb] at hq y0
        clear hmm hbb
        go_upto_region 5 with fail
        go_quiet (fail)
        revert nq
        intro n1
        obtain ⟨w1, hw1⟩ : ∃ w1, wr.drewN n1 = w1 := ⟨_, rfl⟩
        have HP1 := Lib.hid (HP.out.keep2 (w' := w1) fun q _ => by rw [← hw1]; rfl)
        have HR1 := Lib.hid (row_same (w' := w1) HR.out fun q _ => by rw [← hw1]; rfl)
        have HO1 := Lib.hid (HO.out.trans (Oth.of_below (S := OwnQ bp go gp gc gs) (show Below wr.heap.size wr w1 from by rw [← hw1]; exact below_drewN wr n1)) (fun _ _ h => h))
        rw [hw1]
        clear hw1 e0 e2 e3 e4 y0 y1 HP HR HO hq
        go_wp2_with (go_at_call 61; refine (HMK.out w1 HP1.out).mono ?_; rintro x9 w5 ⟨rfl, hp5, ho5⟩)
        have HRT := Lib.hid (row_same (w' := w5) HR1.out fun q e => ho5.out.block q (HR1.out.lt q e).2 (fun h9 => by have := HLT.out; have := (HR1.out.lt q e).1; rcases h9 with h9 | h9 | h9 <;> omega))
        have HO5 : Hid (Oth w w5 (OwnQ bp go gp gc gs)) := Lib.hid (HO1.out.trans ho5.out fun q _ h9 h8 => h9 (h8.elim (fun e => .inr (.inl e)) fun h8 => h8.elim (fun e => .inr (.inr (.inl e))) fun e => .inr (.inr (.inr (.inr e)))))
        rw [hcc] at hp5
        clear ho5
        go_roundw
        case rel => exact ⟨i + 1, _, _, _, T, num_succ i, by omega, by omega, hp5, HS2, HRT, HO5⟩
        case measure => simp [intOf]; omega
    · obtain rfl : i = l.length := by omega
      obtain ⟨w2, hw2⟩ : ∃ w2, w2 = wr := ⟨_, rfl⟩
      subst hw2
      have hd : decide ((l.length : Int) < l.length) = false := by simp
      rw [List.take_length] at HM
      obtain ⟨ln, hln⟩ : ∃ ln, T.length = ln := ⟨_, rfl⟩
      have HLN := Lib.hid hln
      rw [hln] at HR hTi
      obtain ⟨a3, cp3, rfl⟩ := row_form HR.out
      have hkn := HM.out.pi.le
      have HS0 := Lib.hid HM.out.parts
      have HTC := Lib.hid HM.out.tin
      have HTN := Lib.hid HM.out.nd
      have HC0 := Lib.hid fun t ht => (HM.out.pi.cl t ht).1
      have HNR := Lib.hid (show N ≤ w2.heap.size from by have := HO.out.size; have := HNw.out; omega)
      have HO2 : Hid (Oth w2 w2 (OwnQ bp go gp gc gs)) := Lib.hid (Oth.refl _ _)
      have HP2 := HP
      clear hln HP
      go_wp2
      go_loopw [50] (fun z wr => ∃ (j k' gs' cs' : Nat) (C' : Nat → Nat) (sp' : Nat → Nat × Nat × Nat), z = .int .i64 j ∧ j ≤ ln ∧ (gs' = gs ∨ w2.heap.size ≤ gs') ∧ Hid (PA wr bp B n k' go gp gc gs' co cp cc cs' O P C' sp') ∧ Hid (SP n k k' O P C C' sp' l (T.take j)) ∧ Hid (Oth w2 wr (OwnQ bp go gp gc gs))) (fun z _ => ln - (intOf z).toNat)
      case atStart => exact ⟨0, k, gs, cs, C, sp, rfl, Nat.zero_le _, .inl rfl, HP2, HS0, HO2⟩
      case round =>
        clear HP2 HS0 HO2
        obtain ⟨j, k', gs', cs', C', sp', rfl, hj, hgs, HP, HS, HO2⟩ := hrel
        have HRW := Lib.hid (row_same (w' := wr) HR.out fun q e => HO2.out.block q (HR.out.lt q e).2 (fun h9 => by have := HLT.out; have := (HR.out.lt q e).1; rcases h9 with h9 | h9 | h9 | h9 | h9 <;> omega))
        by_cases hlt : j < ln
        · have hd : decide ((j : Int) < ln) = true := decide_eq_true (by omega)
          have hjl : (j : Int) < ln := by omega
          have hjT : j < T.length := by rw [HLN.out]; exact hlt
          obtain ⟨g9, c9, e9, hcell⟩ := row_cell HRW.out (by omega)
          cases e9
          have e0 : wr.cell? ⟨g9, j, none⟩ = some (.int .i64 (T[j] : Nat)) := hcell j _ (by simp [natsL, hjT])
          have hni := notin_take HTN.out hjT
          have HTK := Lib.hid (show T.take (j + 1) = T.take j ++ [T[j]] from List.take_succ_eq_append_getElem hjT)
          obtain ⟨t0, ht0, ht1, ht2⟩ := (HTC.out T[j]).1 (List.getElem_mem hjT)
          have hck : T[j] < k := by rw [← ht2]; exact HC0.out t0 ht1
          generalize T[j] = c at *
          have hkk := HS.out.kk
          have hkn2 := HS.out.pi.le
          obtain ⟨z1, z2, z3, z4⟩ := HS.out.pi.sz c (by omega)
          have HPT := Lib.hid (ppart_any bp B n k' go gp gc gs' co cp cc cs' c O P C' sp' wr HP.out hn (by omega) z1 z2 z3 (fun p hp => (HS.out.pi.od p hp).1) (by omega) (by have := HO2.out.size; have := HNR.out; omega))
          clear hcell ht0 ht1 ht2
          go_wp2_with (go_at_call 62; refine HPT.out.mono ?_; rintro x9 w5 ⟨rfl, hp5⟩)
          obtain ⟨ho5, gs2, cs2, hg2, hp6⟩ := hp5.out
          have hg3 : gs2 = gs ∨ w2.heap.size ≤ gs2 := by have := HO2.out.size; rcases hg2 with rfl | hg2 <;> omega
          have HO5 : Hid (Oth w2 w5 (OwnQ bp go gp gc gs)) := Lib.hid (HO2.out.trans ho5 fun q hq h9 h8 => by
            rcases h8 with e | e | e
            · exact h9 (.inl e)
            · exact h9 (.inr (.inr (.inr (.inl e))))
            · rcases hgs with e2 | e2
              · exact h9 (.inr (.inr (.inr (.inr (e.trans e2)))))
              · omega)
          rcases hp6 with ⟨h0, hp6⟩ | ⟨h0, hp6⟩
          · have HS5 := Lib.hid (HS.out.same hck hni h0)
            rw [← HTK.out] at HS5
            have HP5 := Lib.hid hp6
            clear hp5 hp6 ho5
            go_roundw
            case rel => exact ⟨j + 1, _, _, _, _, _, num_succ j, by omega, hg3, HP5, HS5, HO5⟩
            case measure => simp [intOf]; omega
          · have HS5 := Lib.hid (HS.out.part hck hni h0 rfl)
            rw [← HTK.out] at HS5
            have HP5 := Lib.hid hp6
            clear hp5 hp6 ho5
            go_roundw
            case rel => exact ⟨j + 1, _, _, _, _, _, num_succ j, by omega, hg3, HP5, HS5, HO5⟩
            case measure => simp [intOf]; omega
        · obtain rfl : j = ln := by omega
          have hd : decide ((j : Int) < j) = false := by simp
          have HSD := Lib.hid (HS.out.done (fun c => by rw [← HLN.out, List.take_length]; exact HTC.out c))
          have HOF := Lib.hid (HO.out.trans HO2.out fun _ _ h => h)
          go_wp2
          go_end0
          exact ⟨rfl, Lib.hid ⟨k', gs', cs', O, P, C', sp', by have := HNR.out; have := HNw.out; rcases hgs with e | e <;> omega, HP.out, HSD.out⟩, HOF⟩
end Go.Proofs.Ytamgldhnfcikbaa
set_option maxRecDepth 100000
namespace Go.Proofs.Ytamgldhnfcikbaa
open Go.RowKit

theorem made_ints (n : Nat) : (madeCells (Value.int .i64 0).cells n).toList = natsV n fun _ => 0 := by
  apply List.ext_getElem
  · simp [natsV, size_madeCells]
  · intro i h1 h2
    simp [madeCells, natsV, Value.cells, Nat.mod_one]
theorem make_ints {c : Int} {n : Nat} (hc : c = n) (hn : n ≤ 100000) (w : World) : (Instr.makeSlice 44 (.int .i64 c) (.int .i64 c)).run Try.prog w = .ok (.slice (some ⟨w.heap.size, 0, none⟩) n n) (w.alloc (.cells (natsV n fun _ => 0).toArray 3)) := by
  subst hc
  obtain ⟨i, hi, hz, hs, hb⟩ := info_parts infoI
  have := run_make (P := Try.prog) w 44 3 i _ Try.underlying44 hi hz .i64 .i64 n n (by omega) (Int.le_refl _) (by rw [hb]; omega) (by omega)
  rw [← made_ints]
  simpa [hs] using this
theorem row_low {w : World} {B B' n sz : Nat} {e : TypeId} {v : Value} {l : List Value} (h : w.ownsRow B e sz v n l) (hb : B' ≤ B) : w.ownsRow B' e sz v n l :=
  ⟨h.1, h.2.imp_right fun ⟨g, cap, cur, a, b, c⟩ => ⟨g, cap, cur, a, Nat.le_trans hb b, c⟩⟩
structure NP (w : World) (N n k j : Nat) (v u : Value) : Prop where
  blk : w.heap[N + 2]? = some (.cells #[v, u, .slice (some ⟨N, 0, none⟩) n n, .slice (some ⟨N + 1, 0, none⟩) 1 1] 83 (0, 0))
  ro : w.ownsRow (N + 3) 3 1 v k (natsV k fun i => i)
  rp : w.ownsRow (N + 3) 3 1 u j (natsV j fun i => i)
  rc : w.ownsRow N 3 1 (.slice (some ⟨N, 0, none⟩) n n) n (natsV n fun _ => 0)
  rs : w.ownsRow N 106 3 (.slice (some ⟨N + 1, 0, none⟩) 1 1) 1 (spansV 1 fun _ => (0, 0, n))
  ne : ∀ q, v.ownBlock = some q → u.ownBlock = some q → False
theorem NP.below {w w' : World} {N n k j : Nat} {v u : Value} (h : NP w N n k j v u) (hb : Below w.heap.size w w') : NP w' N n k j v u :=
  ⟨(hb.block _ (lt_of_block h.blk)).trans h.blk, row_same h.ro fun q e => hb.block q (h.ro.lt q e).2, row_same h.rp fun q e => hb.block q (h.rp.lt q e).2, row_same h.rc fun q e => hb.block q (h.rc.lt q e).2, row_same h.rs fun q e => hb.block q (h.rs.lt q e).2, h.ne⟩
theorem NP.order {w w' : World} {N n k j : Nat} {v u v' : Value} (h : NP w N n k j v u) (hg : w.grownBy w' v.ownBlock) (hr : w'.ownsRow (N + 3) 3 1 v' (k + 1) (natsV k (fun i => i) ++ [.int .i64 (k : Nat)]))
    (hv : v.ownBlock = v'.ownBlock ∨ ∃ q, v'.ownBlock = some q ∧ w.heap.size ≤ q) : NP (w'.setCell ⟨N + 2, 0, none⟩ v') N n (k + 1) j v' u := by
  have hbl := lt_of_block h.blk
  have key : ∀ q, q < w.heap.size → q ≠ N + 2 → some q ≠ v.ownBlock → (w'.setCell ⟨N + 2, 0, none⟩ v').heap[q]? = w.heap[q]? := fun q h1 h2 h3 => by
    rw [Below.heap_setCell _ _ _ _ (show q ≠ N + 2 from h2), hg.block q h1 h3]
  have hlow : ∀ q, q < N + 3 → some q ≠ v.ownBlock := fun q hq e => by have := (h.ro.lt q e.symm).1; omega
  have hx : w'.heap[N + 2]? = _ := (hg.block (N + 2) hbl (hlow _ (by omega))).trans h.blk
  refine ⟨by rw [setCell_block hx]; rfl, ?_, ?_, ?_, ?_, ?_⟩
  · rw [natsV_succ]
    exact row_same hr fun q e => Below.heap_setCell _ _ _ _ (show q ≠ N + 2 by have := (hr.lt q e).1; omega)
  · exact row_same h.rp fun q e => key q (h.rp.lt q e).2 (by have := (h.rp.lt q e).1; omega) fun e2 => h.ne q e2.symm e
  · exact row_same h.rc fun q e => key q (h.rc.lt q e).2 (by have e9 : q = N := (by cases e; rfl); omega) (hlow q (by have e9 : q = N := (by cases e; rfl); omega))
  · exact row_same h.rs fun q e => key q (h.rs.lt q e).2 (by have e9 : q = N + 1 := (by cases e; rfl); omega) (hlow q (by have e9 : q = N + 1 := (by cases e; rfl); omega))
  · intro q e1 e2
    rcases hv with hv | ⟨q', h1, h2⟩
    · exact h.ne q (hv.trans e1) e2
    · have := (h.rp.lt q e2).2
      rw [h1] at e1; cases e1; omega
theorem NP.place {w w' : World} {N n k j : Nat} {v u u' : Value} (h : NP w N n k j v u) (hg : w.grownBy w' u.ownBlock) (hr : w'.ownsRow (N + 3) 3 1 u' (j + 1) (natsV j (fun i => i) ++ [.int .i64 (j : Nat)]))
    (hv : u.ownBlock = u'.ownBlock ∨ ∃ q, u'.ownBlock = some q ∧ w.heap.size ≤ q) : NP (w'.setCell ⟨N + 2, 1, none⟩ u') N n k (j + 1) v u' := by
  have hbl := lt_of_block h.blk
  have key : ∀ q, q < w.heap.size → q ≠ N + 2 → some q ≠ u.ownBlock → (w'.setCell ⟨N + 2, 1, none⟩ u').heap[q]? = w.heap[q]? := fun q h1 h2 h3 => by
    rw [Below.heap_setCell _ _ _ _ (show q ≠ N + 2 from h2), hg.block q h1 h3]
  have hlow : ∀ q, q < N + 3 → some q ≠ u.ownBlock := fun q hq e => by have := (h.rp.lt q e.symm).1; omega
  have hx : w'.heap[N + 2]? = _ := (hg.block (N + 2) hbl (hlow _ (by omega))).trans h.blk
  refine ⟨by rw [setCell_block hx]; rfl, ?_, ?_, ?_, ?_, ?_⟩
  · exact row_same h.ro fun q e => key q (h.ro.lt q e).2 (by have := (h.ro.lt q e).1; omega) fun e2 => h.ne q e e2.symm
  · rw [natsV_succ]
    exact row_same hr fun q e => Below.heap_setCell _ _ _ _ (show q ≠ N + 2 by have := (hr.lt q e).1; omega)
  · exact row_same h.rc fun q e => key q (h.rc.lt q e).2 (by have e9 : q = N := (by cases e; rfl); omega) (hlow q (by have e9 : q = N := (by cases e; rfl); omega))
  · exact row_same h.rs fun q e => key q (h.rs.lt q e).2 (by have e9 : q = N + 1 := (by cases e; rfl); omega) (hlow q (by have e9 : q = N + 1 := (by cases e; rfl); omega))
  · intro q e1 e2
    rcases hv with hv | ⟨q', h1, h2⟩
    · exact h.ne q e1 (hv.trans e2)
    · have := (h.ro.lt q e1).2
      rw [h1] at e2; cases e2; omega
theorem NP.done {w : World} {N n : Nat} {v u : Value} (h : NP w N n n n v u) (h0 : 0 < n) : ∃ go gp co cp, PA w (N + 2) N n 1 go gp N (N + 1) co cp n 1 (fun i => i) (fun i => i) (fun _ => 0) (fun _ => (0, 0, n)) := by
  obtain ⟨go, co, rfl, g1, _⟩ := h.ro.form h0
  obtain ⟨gp, cp, rfl, g2, _⟩ := h.rp.form h0
  have hne : go ≠ gp := fun e => h.ne go rfl (by rw [e]; rfl)
  exact ⟨go, gp, co, cp, h.blk, row_low h.ro (by omega), row_low h.rp (by omega), h.rc, h.rs, by omega, by omega⟩
theorem PI.whole {n : Nat} (h0 : 0 < n) : PI n 1 (fun i => i) (fun i => i) (fun _ => 0) (fun _ => (0, 0, n)) :=
  ⟨fun s h => ⟨h, rfl⟩, fun p h => ⟨h, rfl⟩, fun s h => ⟨by omega, Nat.zero_le _, h⟩, fun c _ => ⟨Nat.le_refl _, Nat.zero_le _, Nat.le_refl _, h0⟩, fun c hc _ _ _ => by omega⟩
set_option linter.unusedSimpArgs false in
set_option maxHeartbeats 4000000 in
theorem newPart_any (n : Nat) (w : World) (hn : n ≤ 4096) :
    Calls Try.prog 46 #[.int .i64 n] w fun e w' => e = .returned (.pointer (some ⟨w.heap.size + 2, 0, none⟩)) ∧ (∃ v u, Hid (NP w' w.heap.size n n n v u)) ∧ Hid (Below w.heap.size w w') := by
  obtain ⟨i0, hi0, hz0, hz1, hz2⟩ := info_parts infoI
  have HI := Lib.hid (And.intro hi0 (And.intro hz0 (And.intro hz1 hz2)))
  clear hi0 hz0 hz1 hz2
  obtain ⟨N, hN⟩ : ∃ N, w.heap.size = N := ⟨_, rfl⟩
  have hmk := make_ints (c := (n : Int)) (n := n) rfl (by omega)
  have hmax : max (n : Int) 0 = n := by omega
  obtain ⟨W3, hW3⟩ : ∃ W3, ((w.alloc (.cells (natsV n fun _ => 0).toArray 3)).alloc (.cells #[.int .i64 0, .int .i64 0, .int .i64 n] 106)).alloc (.cells #[.slice none 0 0, .slice none 0 0, .slice (some ⟨N, 0, none⟩) n n, .slice (some ⟨N + 1, 0, none⟩) 1 1] 83) = W3 := ⟨_, rfl⟩
  have HB3 : Hid (Below N w W3) := Lib.hid (by rw [← hW3, ← hN]; exact ((new_one w _).trans ((new_one _ _).mono (by simp))).trans ((new_one _ _).mono (by simp; omega)))
  have HP3 : Hid (NP W3 N n 0 0 (.slice none 0 0) (.slice none 0 0)) := Lib.hid (by
    have s1 : (w.alloc (.cells (natsV n fun _ => 0).toArray 3)).heap.size = N + 1 := by simp [hN]
    have s2 : ((w.alloc (.cells (natsV n fun _ => 0).toArray 3)).alloc (.cells #[.int .i64 0, .int .i64 0, .int .i64 n] 106)).heap.size = N + 2 := by simp [hN]
    refine ⟨?_, World.ownsRow_nil _ _ _ _, World.ownsRow_nil _ _ _ _, ⟨by simp [natsV], .inr ⟨N, n, (natsV n fun _ => 0).toArray, rfl, Nat.le_refl _, ?_, Nat.le_refl _, by unfold maxLen; omega, by simp [natsV], by rw [Nat.mul_one]; exact List.take_of_length_le (by simp [natsV])⟩⟩, ⟨by simp [spansV_len], .inr ⟨N + 1, 1, #[.int .i64 0, .int .i64 0, .int .i64 n], rfl, Nat.le_succ _, ?_, Nat.le_refl _, by unfold maxLen; omega, ?_, ?_⟩⟩, fun q e => by cases e⟩
    · rw [← hW3, ← s2]; exact heap_alloc_new _ _
    · rw [← hW3, heap_alloc_old _ _ (by rw [s2]; omega), heap_alloc_old _ _ (by rw [s1]; omega), ← hN]; exact heap_alloc_new w _
    · rw [← hW3, heap_alloc_old _ _ (by rw [s2]; omega), ← s1]; exact heap_alloc_new _ _
    · rfl
    · rfl)
  rw [hN]
  go_enter Try.func46, Try.ntmps46
  go_wp2
  obtain ⟨bp, hbp⟩ : ∃ bp, N + 1 + 1 = bp := ⟨_, rfl⟩
  rw [hbp]
  clear hmk hmax hW3
  go_loopw [13] (fun z wr => ∃ (k : Nat) (v u : Value), z = .int .i64 k ∧ k ≤ n ∧ Hid (NP wr N n k k v u) ∧ Hid (Below N w wr)) (fun z _ => n - (intOf z).toNat)
  case atStart => exact ⟨0, _, _, rfl, Nat.zero_le _, HP3, HB3⟩
  case round =>
    clear HP3 HB3
    obtain ⟨k, v, u, rfl, hk, HP, HB⟩ := hrel
    by_cases hlt : k < n
    · have hd : decide ((k : Int) < n) = true := decide_eq_true (by omega)
      obtain ⟨a3, cp3, rfl⟩ := row_form HP.out.ro
      obtain ⟨a4, cp4, rfl⟩ := row_form HP.out.rp
      have p0 : wr.cell? ⟨bp, 0, none⟩ = some (.slice a3 k cp3) := (cell_of_row wr bp 0 _ _ _ (show wr.heap[bp]? = _ from by rw [← hbp]; exact HP.out.blk)).trans rfl
      have hsz0 : N + 2 < wr.heap.size := lt_of_block HP.out.blk
      have hxn0 := heap_alloc_new wr (.cells #[.int .i64 k] 3)
      have HA0 := Lib.hid (HP.out.below (new_one wr (.cells #[.int .i64 k] 3)))
      have HF0 := Lib.hid (show ∀ w8, (wr.alloc (.cells #[.int .i64 k] 3)).grownBy w8 (Value.slice a3 k cp3).ownBlock → w8.frozen? ⟨bp, 0, none⟩ = false ∧ w8.cell? ⟨bp, 0, none⟩ = some (.slice a3 k cp3) from fun w8 h3 => by
        have h9 := h3.block (N + 2) (by simp; omega) (fun e => by have := (HA0.out.ro.lt _ e.symm).1; omega)
        have h8 := h9.trans HA0.out.blk
        rw [← hbp]
        exact ⟨frozen_row (j := 0) h8, (cell_of_row w8 (N + 2) 0 _ _ _ h8).trans rfl⟩)
      go_upto_region 6 with (at_builtin; refine wpList_append_lies _ rfl _ _ 44 rfl (N + 3) 3 i0 (.int .i64 0) 1 8 Try.underlying44 HI.out.1 HI.out.2.1 HI.out.2.2.1 HI.out.2.2.2 rfl (by decide) (.slice a3 k cp3) k (natsV k fun i => i) rfl HA0.out.ro ⟨wr.heap.size, 0, none⟩ 1 1 [.int .i64 k] rfl rfl (one_newsI hxn0) (by simp [Value.oneCell']) (by omega) (by unfold maxLen; omega) (by omega) (by simp; omega) (wr.heap.size + 1) (by simp) ?_; intro g9 cap2 w8 h2 h3 h4 h5; have hfz0 := (HF0.out w8 h3).1; have hcl0 := (HF0.out w8 h3).2)
      have hv0 : (Value.slice a3 k cp3).ownBlock = (Value.slice (some ⟨g9, 0, none⟩) (k + 1) cap2).ownBlock ∨ ∃ q, (Value.slice (some ⟨g9, 0, none⟩) (k + 1) cap2).ownBlock = some q ∧ (wr.alloc (.cells #[.int .i64 k] 3)).heap.size ≤ q := by
        rcases h4 with h4 | h4
        · exact .inl h4
        · exact .inr ⟨g9, rfl, by simp; omega⟩
      have HP2 := Lib.hid (HA0.out.order h3 h2 hv0)
      have HB2 := Lib.hid (((HB.out.trans ((new_one wr (.cells #[.int .i64 k] 3)).mono (by omega))).grown h3 (by simp; omega) (fun q e => by have := (HA0.out.ro.lt q e).1; omega)).setCell (p := ⟨N + 2, 0, none⟩) (by show N ≤ N + 2; omega) (.slice (some ⟨g9, 0, none⟩) (k + 1) cap2))
      obtain ⟨w5, hw5⟩ : ∃ w5, w8.setCell ⟨bp, 0, none⟩ (.slice (some ⟨g9, 0, none⟩) (k + 1) cap2) = w5 := ⟨_, rfl⟩
      have HP5 : Hid (NP w5 N n (k + 1) k (.slice (some ⟨g9, 0, none⟩) (k + 1) cap2) (.slice a4 k cp4)) := Lib.hid (by rw [← hw5, ← hbp]; exact HP2.out)
      have HB5 : Hid (Below N w w5) := Lib.hid (by rw [← hw5, ← hbp]; exact HB2.out)
      try rw [hw5]
      clear h2 h3 h4 h5 hv0 hw5 HP2 HB2 HP HB HA0 HF0 hfz0 hcl0 p0 hxn0
      have p1 : w5.cell? ⟨bp, 1, none⟩ = some (.slice a4 k cp4) := (cell_of_row w5 bp 1 _ _ _ (show w5.heap[bp]? = _ from by rw [← hbp]; exact HP5.out.blk)).trans rfl
      have hsz1 : N + 2 < w5.heap.size := lt_of_block HP5.out.blk
      have hxn1 := heap_alloc_new w5 (.cells #[.int .i64 k] 3)
      have HA1 := Lib.hid (HP5.out.below (new_one w5 (.cells #[.int .i64 k] 3)))
      have HF1 := Lib.hid (show ∀ w8, (w5.alloc (.cells #[.int .i64 k] 3)).grownBy w8 (Value.slice a4 k cp4).ownBlock → w8.frozen? ⟨bp, 1, none⟩ = false ∧ w8.cell? ⟨bp, 1, none⟩ = some (.slice a4 k cp4) from fun w8 h3 => by
        have h9 := h3.block (N + 2) (by simp; omega) (fun e => by have := (HA1.out.rp.lt _ e.symm).1; omega)
        have h8 := h9.trans HA1.out.blk
        rw [← hbp]
        exact ⟨frozen_row (j := 1) h8, (cell_of_row w8 (N + 2) 1 _ _ _ h8).trans rfl⟩)
      go_upto_region 7 with (at_builtin; refine wpList_append_lies _ rfl _ _ 44 rfl (N + 3) 3 i0 (.int .i64 0) 1 8 Try.underlying44 HI.out.1 HI.out.2.1 HI.out.2.2.1 HI.out.2.2.2 rfl (by decide) (.slice a4 k cp4) k (natsV k fun i => i) rfl HA1.out.rp ⟨w5.heap.size, 0, none⟩ 1 1 [.int .i64 k] rfl rfl (one_newsI hxn1) (by simp [Value.oneCell']) (by omega) (by unfold maxLen; omega) (by omega) (by simp; omega) (w5.heap.size + 1) (by simp) ?_; intro g7 cap3 w7 h2 h3 h4 h5; have hfz1 := (HF1.out w7 h3).1; have hcl1 := (HF1.out w7 h3).2)
      have hv1 : (Value.slice a4 k cp4).ownBlock = (Value.slice (some ⟨g7, 0, none⟩) (k + 1) cap3).ownBlock ∨ ∃ q, (Value.slice (some ⟨g7, 0, none⟩) (k + 1) cap3).ownBlock = some q ∧ (w5.alloc (.cells #[.int .i64 k] 3)).heap.size ≤ q := by
        rcases h4 with h4 | h4
        · exact .inl h4
        · exact .inr ⟨g7, rfl, by simp; omega⟩
      have HP6 := Lib.hid (HA1.out.place h3 h2 hv1)
      have HB6 := Lib.hid (((HB5.out.trans ((new_one w5 (.cells #[.int .i64 k] 3)).mono (by omega))).grown h3 (by simp; omega) (fun q e => by have := (HA1.out.rp.lt q e).1; omega)).setCell (p := ⟨N + 2, 1, none⟩) (by show N ≤ N + 2; omega) (.slice (some ⟨g7, 0, none⟩) (k + 1) cap3))
      clear h2 h3 h4 h5 hv1 HA1 HF1 hfz1 p1 hxn1
      go_wp2
      go_roundw
      case rel => exact ⟨k + 1, _, _, num_succ k, by omega, by rw [← hbp]; exact HP6, by rw [← hbp]; exact HB6⟩
      case measure => simp [intOf]; omega
    · obtain rfl : k = n := by omega
      have hd : decide ((k : Int) < k) = false := by simp
      go_wp2
      exact bodyPost_ret (v := .pointer (some ⟨bp, 0, none⟩)) (by simp [results, Try.results46, go_sem, *]) rfl ⟨by rw [← hbp], ⟨v, u, HP⟩, HB⟩
end Go.Proofs.Ytamgldhnfcikbaa
set_option maxRecDepth 100000
namespace Go.Proofs.Ytamgldhnfcikbaa
open Go.RowKit

theorem zero_begins : Try.zeroCells110 = Places 257 fun _ => false := by kernel_rfl
def BBlk (w : World) (b : Nat) (f : Nat → Bool) : Prop := w.heap[b]? = some (.cells (Places 257 f) 110 (0, 0))
theorem BBlk.lt {w : World} {b : Nat} {f : Nat → Bool} (h : BBlk w b f) : b < w.heap.size := lt_of_block h
theorem BBlk.below {w w' : World} {b : Nat} {f : Nat → Bool} (h : BBlk w b f) (hb : Below w.heap.size w w') : BBlk w' b f := (hb.block b h.lt).trans h
theorem BBlk.other {w : World} {b : Nat} {f : Nat → Bool} (h : BBlk w b f) {a : Addr} (ha : b ≠ a.block) (u : Value) : BBlk (w.setCell a u) b f := by
  unfold BBlk
  rw [Below.heap_setCell _ _ _ _ ha]; exact h
theorem BBlk.cell {w : World} {b i : Nat} {f : Nat → Bool} (h : BBlk w b f) (hi : i < 257) : w.cell? ⟨b, i, none⟩ = some (.bool (f i)) := by
  rw [cell_of_row w b i _ _ _ h]
  simp [Places, hi]
theorem BBlk.frozen {w : World} {b i : Nat} {f : Nat → Bool} (h : BBlk w b f) : w.frozen? ⟨b, i, none⟩ = false := frozen_row (j := i) h
theorem BBlk.set {w : World} {b k : Nat} {f : Nat → Bool} (h : BBlk w b f) : BBlk (w.setCell ⟨b, k, none⟩ (.bool true)) b fun i => f i || i == k := by
  unfold BBlk
  rw [setCell_block h]
  congr 2
  apply Array.ext
  · simp [Places]
  · intro i h1 h2
    rw [Array.getElem_setIfInBounds (by simpa using h1)]
    by_cases e : k = i
    · subst e; simp [Places]
    · rw [if_neg e]
      have : (i == k) = false := by rw [beq_eq_false_iff_ne]; exact fun x => e x.symm
      simp [Places, this]
def Begs (L : List Arc3) (x : Nat) : Prop := ∃ a ∈ L, a.lo = x ∨ a.hi + 1 = x
theorem begs_nil (x : Nat) : Begs [] x ↔ False := ⟨fun ⟨_, h, _⟩ => by simp at h, False.elim⟩
theorem begs_snoc (L : List Arc3) (a : Arc3) (x : Nat) : Begs (L ++ [a]) x ↔ Begs L x ∨ a.lo = x ∨ a.hi + 1 = x := by
  unfold Begs
  constructor
  · rintro ⟨c, hc, h⟩
    rcases List.mem_append.1 hc with hc | hc
    · exact .inl ⟨c, hc, h⟩
    · rw [List.mem_singleton] at hc; subst hc; exact .inr h
  · rintro (⟨c, hc, h⟩ | h)
    · exact ⟨c, List.mem_append_left _ hc, h⟩
    · exact ⟨a, by simp, h⟩
def cntB (f : Nat → Bool) : Nat → Nat
  | 0 => 0
  | i + 1 => cntB f i + if f (i + 1) then 1 else 0
theorem stripes_result {w : World} {b : Nat} {f : Nat → Int} (h : IBlk w b f) {tmps : Array Value} {v : Value} (ht : tmps.getD 2 undef = .pointer (some ⟨b, 0, none⟩)) (hv : tmps.getD 3 undef = v) : (results Try.f49 tmps).run Try.prog w = .ok (.tuple #[.agg (Ints f), v]) w := by
  have hp : tmps[2]?.getD undef = .pointer (some ⟨b, 0, none⟩) := by simpa using ht
  have hq : tmps[3]?.getD undef = v := by simpa using hv
  simp [results, hp, hq, asAddr, load_ints h]
set_option linter.unusedSimpArgs false in
set_option maxHeartbeats 4000000 in
theorem stripes_any (v : Value) (m : List Sta) (w : World) (hv : MachAt w v m) (hn : m.length ≤ 4096) (hl : ∀ s ∈ m, s.arcs.length < 9223372036854775808) (hm : Mays m) :
    Calls Try.prog 49 #[v] w fun e w' => (∃ f : Nat → Bool, Hid (∀ x, f x = true ↔ Begs (m.flatMap Sta.arcs) x) ∧ e = .returned (.tuple #[.agg (Ints fun i => (cntB f i : Nat)), .int .i64 ((cntB f 255 : Nat) + 1)])) ∧ Hid (Below w.heap.size w w') := by
  obtain ⟨av, cv, rfl⟩ := hv.len
  have HL := Lib.hid hl
  have HM := Lib.hid hm
  obtain ⟨B0, hB⟩ : ∃ B, w.heap.size = B := ⟨_, rfl⟩
  have HV := Lib.hid (show ∀ wr, Below B0 w wr → MachAt wr _ m from fun wr h => hv.below (by rw [hB]; exact h))
  clear hv hl hm
  have Z := zero_ints
  have Z2 := zero_begins
  have hB1 : B0 ≠ B0 + 1 := by omega
  obtain ⟨W2, hW2⟩ : ∃ W2, (w.alloc (.cells (Ints fun _ => 0) 49)).alloc (.cells (Places 257 fun _ => false) 110) = W2 := ⟨_, rfl⟩
  have HA0 : Hid (IBlk W2 B0 fun _ => 0) := Lib.hid (by
    have := heap_alloc_new w (.cells (Ints fun _ => 0) 49)
    rw [hB] at this
    rw [← hW2]
    exact (Below.heap_alloc _ _ B0 (by simp; omega)).trans this)
  have HA1 : Hid (BBlk W2 (B0 + 1) fun _ => false) := Lib.hid (by
    have := heap_alloc_new (w.alloc (.cells (Ints fun _ => 0) 49)) (.cells (Places 257 fun _ => false) 110)
    rw [World.size_alloc, hB] at this
    rw [← hW2]
    exact this)
  have HBW : Hid (Below B0 w W2) := Lib.hid (by rw [← hB, ← hW2]; exact below2 _ _ _)
  have HF0 : Hid (∀ x, (fun _ => false) x = true ↔ Begs ((m.take 0).flatMap Sta.arcs) x) := Lib.hid fun x => by rw [List.take_zero, List.flatMap_nil, begs_nil]; simp
  rw [hB]
  go_enter Try.func49, Try.ntmps49
  go_wp2
  go_loopw [13] (fun z wr => ∃ (k : Nat) (f : Nat → Bool), z = .int .i64 k ∧ k ≤ m.length ∧ Hid (BBlk wr (B0 + 1) f) ∧ Hid (IBlk wr B0 fun _ => 0) ∧ Hid (∀ x, f x = true ↔ Begs ((m.take k).flatMap Sta.arcs) x) ∧ Hid (Below B0 w wr)) (fun z _ => m.length - (intOf z).toNat)
  case atStart => exact ⟨0, _, rfl, Nat.zero_le _, HA1, HA0, HF0, HBW⟩
  case round =>
    clear HA0 HA1 HBW HF0 hW2
    obtain ⟨k, f, rfl, hk, HA1, HA0, HF, HBW⟩ := hrel
    by_cases hlt : k < m.length
    · have hd : decide ((k : Int) < m.length) = true := decide_eq_true (by omega)
      have hkl : (k : Int) < m.length := by omega
      have hbw : Below w.heap.size w wr := by rw [hB]; exact HBW.out
      obtain ⟨b, o, va, rfl, e0, e1, ha⟩ := (HV.out w (Below.refl _ _)).at rfl hlt
      obtain ⟨aa, ca, rfl⟩ := ha.len
      have HMS := Lib.hid (HM.out m[k] (List.getElem_mem hlt)).2
      have hlk := HL.out m[k] (List.getElem_mem hlt)
      have HTK := Lib.hid (show (m.take (k + 1)).flatMap Sta.arcs = (m.take k).flatMap Sta.arcs ++ m[k].arcs from by rw [List.take_succ_eq_append_getElem hlt, List.flatMap_append]; simp)
      have HA := Lib.hid (show ∀ ws, Below B0 w ws → ArcsAt ws (.slice aa m[k].arcs.length ca) m[k].arcs from fun ws h => ha.below (by rw [hB]; exact h))
      replace e0 := cell_below hbw e0
      replace e1 := cell_below hbw e1
      clear ha hbw
      have HFJ : Hid (∀ x, f x = true ↔ Begs ((m.take k).flatMap Sta.arcs ++ m[k].arcs.take 0) x) := Lib.hid (by rw [List.take_zero, List.append_nil]; exact HF.out)
      generalize m[k].arcs = l at *
      generalize (m.take k).flatMap Sta.arcs = L at *
      go_wp2
      clear e0 e1 HF
      go_loopw [22] (fun z ws => ∃ (j : Nat) (f : Nat → Bool), z = .int .i64 j ∧ j ≤ l.length ∧ Hid (BBlk ws (B0 + 1) f) ∧ Hid (IBlk ws B0 fun _ => 0) ∧ Hid (∀ x, f x = true ↔ Begs (L ++ l.take j) x) ∧ Hid (Below B0 w ws)) (fun z _ => l.length - (intOf z).toNat)
      case atStart => exact ⟨0, f, rfl, Nat.zero_le _, HA1, HA0, HFJ, HBW⟩
      case round =>
        clear HA0 HA1 HBW HFJ
        obtain ⟨j, f, rfl, hj, HA1, HA0, HF, HBW⟩ := hrel
        by_cases hlj : j < l.length
        · have hd2 : decide ((j : Int) < l.length) = true := decide_eq_true (by omega)
          have hjl : (j : Int) < l.length := by omega
          obtain ⟨g, u, rfl, a0, a1, a2⟩ := (HA.out wr HBW.out).at rfl hlj
          obtain ⟨hm1, hm2, hm3, hm4⟩ := HMS.out l[j] (List.getElem_mem hlj)
          have HTJ := Lib.hid (show L ++ l.take (j + 1) = (L ++ l.take j) ++ [l[j]] from by rw [List.take_succ_eq_append_getElem hlj, List.append_assoc])
          generalize l[j] = a at *
          obtain ⟨Bx, hBx⟩ : ∃ Bx, wr.heap.size = Bx := ⟨_, rfl⟩
          have hBl := HA1.out.lt
          have HX : Hid (ABlk (wr.alloc (.cells #[.int .u8 a.lo, .int .u8 a.hi, .int .i64 a.dest] 38)) Bx a) := Lib.hid (by rw [← hBx]; exact heap_alloc_new wr _)
          have HY := Lib.hid (HA1.out.below (new_one wr (.cells #[.int .u8 a.lo, .int .u8 a.hi, .int .i64 a.dest] 38)))
          have HZ := Lib.hid (((HA0.out.below (new_one wr (.cells #[.int .u8 a.lo, .int .u8 a.hi, .int .i64 a.dest] 38))).other (a := ⟨B0 + 1, a.lo, none⟩) hB1 (.bool true)).other (a := ⟨B0 + 1, a.hi + 1, none⟩) hB1 (.bool true))
          have HBN := Lib.hid (((HBW.out.trans ((new_one wr (.cells #[.int .u8 a.lo, .int .u8 a.hi, .int .i64 a.dest] 38)).mono (by omega))).setCell (p := ⟨B0 + 1, a.lo, none⟩) (Nat.le_succ B0) (.bool true)).setCell (p := ⟨B0 + 1, a.hi + 1, none⟩) (Nat.le_succ B0) (.bool true))
          have x0 := HX.out.cells.1
          have x1 := (HX.out.other (a := ⟨B0 + 1, a.lo, none⟩) (show Bx ≠ B0 + 1 by omega) (.bool true)).cells.2.1
          have y0 := HY.out.cell (i := a.lo) (by omega)
          have fz0 : (wr.alloc (.cells #[.int .u8 a.lo, .int .u8 a.hi, .int .i64 a.dest] 38)).frozen? ⟨B0 + 1, a.lo, none⟩ = false := HY.out.frozen
          have y1 := (HY.out.set (k := a.lo)).cell (i := a.hi + 1) (by omega)
          have fz1 : ((wr.alloc (.cells #[.int .u8 a.lo, .int .u8 a.hi, .int .i64 a.dest] 38)).setCell ⟨B0 + 1, a.lo, none⟩ (.bool true)).frozen? ⟨B0 + 1, a.hi + 1, none⟩ = false := (HY.out.set (k := a.lo)).frozen
          have HN1 := Lib.hid ((HY.out.set (k := a.lo)).set (k := a.hi + 1))
          have HFN : Hid (∀ x, ((f x || x == a.lo) || x == a.hi + 1) = true ↔ Begs (L ++ l.take (j + 1)) x) := Lib.hid fun x => by
            rw [HTJ.out, begs_snoc, ← HF.out x]
            rw [Bool.or_eq_true, Bool.or_eq_true, beq_iff_eq, beq_iff_eq, or_assoc]
            exact or_congr Iff.rfl (or_congr eq_comm eq_comm)
          have j1 : (a.lo : Int) < 257 := by omega
          have j2 : (a.hi : Int) + 1 < 257 := by omega
          clear HX HY HTJ
          go_wp2
          go_roundw
          case rel => exact ⟨j + 1, _, num_succ j, by omega, HN1, HZ, HFN, HBN⟩
          case measure => simp [intOf]; omega
        · obtain rfl : j = l.length := by omega
          have hd2 : decide ((l.length : Int) < l.length) = false := by simp
          have HFN : Hid (∀ x, f x = true ↔ Begs ((m.take (k + 1)).flatMap Sta.arcs) x) := Lib.hid fun x => by rw [HTK.out, HF.out x, List.take_length]
          go_wp2
          go_roundw
          case rel => exact ⟨k + 1, f, num_succ k, by omega, HA1, HA0, HFN, HBW⟩
          case measure => simp [intOf]; omega
    · obtain rfl : k = m.length := by omega
      have hd : decide ((m.length : Int) < m.length) = false := by simp
      rw [List.take_length] at HF
      obtain ⟨w2, hw2⟩ : ∃ w2, w2 = wr := ⟨_, rfl⟩
      subst hw2
      obtain ⟨Bs, hBs⟩ : ∃ Bs, w2.heap.size = Bs := ⟨_, rfl⟩
      have hBl := HA1.out.lt
      have HS0 : Hid (IBlk (w2.alloc (.cells (Ints fun _ => 0) 49)) Bs fun i => if i < 0 + 1 then (cntB f i : Nat) else 0) := Lib.hid (by
        have : IBlk (w2.alloc (.cells (Ints fun _ => 0) 49)) Bs fun _ => 0 := by rw [← hBs]; exact heap_alloc_new w2 _
        exact this.congr fun i _ => by
          by_cases h : i < 0 + 1
          · obtain rfl : i = 0 := by omega
            rw [if_pos h]; rfl
          · rw [if_neg h])
      have HY := Lib.hid (HA1.out.below (new_one w2 (.cells (Ints fun _ => 0) 49)))
      have HZ := Lib.hid (HA0.out.below (new_one w2 (.cells (Ints fun _ => 0) 49)))
      have HBN := Lib.hid (HBW.out.trans ((new_one w2 (.cells (Ints fun _ => 0) 49)).mono (by omega)))
      clear HA0 HA1 HBW
      have HBS2 := Lib.hid (show B0 + 1 < Bs by omega)
      go_wp2
      go_loopw [9, 10] (fun c z ws => ∃ i : Nat, z = .int .i64 ((i + 1 : Nat) : Int) ∧ c = .int .i64 ((cntB f i + 1 : Nat) : Int) ∧ i ≤ 255 ∧ cntB f i ≤ i ∧ Hid (IBlk ws Bs fun x => if x < i + 1 then (cntB f x : Nat) else 0) ∧ Hid (BBlk ws (B0 + 1) f) ∧ Hid (IBlk ws B0 fun _ => 0) ∧ Hid (Below B0 w ws)) (fun _ z _ => 256 - (intOf z).toNat)
      case atStart => exact ⟨0, rfl, rfl, by omega, Nat.le_refl _, HS0, HY, HZ, HBN⟩
      case round =>
        clear HS0 HY HZ HBN
        obtain ⟨i, rfl, rfl, hi, hci, HS, HY, HZ, HBN⟩ := hrel
        by_cases hlt : i < 255
        · have hd : decide (((i + 1 : Nat) : Int) < 256) = true := decide_eq_true (by omega)
          have hd3 : decide ((i : Int) + 1 < 256) = true := decide_eq_true (by omega)
          have k1 : (i : Int) + 1 < 257 := by omega
          have k2 : (i : Int) + 1 < 256 := by omega
          have y0 := HY.out.cell (i := i + 1) (by omega)
          have s0 := HS.out.cell (i := i + 1) (by omega)
          have fz : wr.frozen? ⟨Bs, i + 1, none⟩ = false := HS.out.frozen
          have hcs : cntB f (i + 1) = cntB f i + if f (i + 1) then 1 else 0 := rfl
          have HCS := Lib.hid hcs
          have HNS := Lib.hid (HS.out.set (k := i + 1) (g := fun x => if x < i + 1 + 1 then ((cntB f x : Nat) : Int) else 0) (v := (cntB f (i + 1) : Nat)) (by rw [if_pos (by omega)]) (fun x _ hne => by
            by_cases h : x < i + 1
            · rw [if_pos h, if_pos (by omega)]
            · rw [if_neg h, if_neg (by omega)]))
          have hb9 := HBS2.out
          have HNY := Lib.hid (HY.out.other (a := ⟨Bs, i + 1, none⟩) (show B0 + 1 ≠ Bs by omega) (.int .i64 (cntB f (i + 1) : Nat)))
          have HNZ := Lib.hid (HZ.out.other (a := ⟨Bs, i + 1, none⟩) (show B0 ≠ Bs by omega) (.int .i64 (cntB f (i + 1) : Nat)))
          have HNB := Lib.hid (HBN.out.setCell (p := ⟨Bs, i + 1, none⟩) (show B0 ≤ Bs by omega) (.int .i64 (cntB f (i + 1) : Nat)))
          clear HS HY HZ HBN
          generalize hf : f (i + 1) = fb at *
          cases fb
          · have hcs : cntB f (i + 1) = cntB f i := hcs
            rw [hcs] at HNS HNY HNZ HNB
            generalize hcc : cntB f i = cn at *
            go_wp2
            go_roundw
            case rel => exact ⟨i + 1, rfl, by rw [hcs], by omega, by omega, HNS, HNY, HNZ, HNB⟩
            case measure => simp [intOf]; omega
          · have hcs : cntB f (i + 1) = cntB f i + 1 := hcs
            rw [hcs] at HNS HNY HNZ HNB
            generalize hcc : cntB f i = cn at *
            go_wp2
            go_roundw
            case rel => exact ⟨i + 1, rfl, by rw [hcs]; rfl, by omega, by omega, HNS, HNY, HNZ, HNB⟩
            case measure => simp [intOf]; omega
        · obtain rfl : i = 255 := by omega
          have hd : decide (((255 + 1 : Nat) : Int) < 256) = false := by simp
          have HC := Lib.hid (HS.out.congr (g := fun x => ((cntB f x : Nat) : Int)) fun x hx => by rw [if_pos (by omega)])
          have HRES := Lib.hid (HZ.out.setRow (g := fun x => ((cntB f x : Nat) : Int)))
          have HRB := Lib.hid (below_setRow HBN.out (Nat.le_refl B0) (Ints fun x => ((cntB f x : Nat) : Int)))
          go_wp2_with (first | (refine wpList_load_ints Bs (fun x => ((cntB f x : Nat) : Int)) HC.out rfl _ rfl rfl ?_) | (refine wpList_store_ints B0 (fun _ => 0) (fun x => ((cntB f x : Nat) : Int)) HZ.out rfl _ _ rfl rfl rfl ?_))
          generalize wr.setRow B0 (Ints fun x => ((cntB f x : Nat) : Int)) = w9 at *
          exact bodyPost_ret (v := .tuple #[.agg (Ints fun x => ((cntB f x : Nat) : Int)), .int .i64 ((cntB f 255 : Nat) + 1)]) (stripes_result HRES.out rfl rfl) rfl ⟨⟨f, HF, rfl⟩, HRB⟩
end Go.Proofs.Ytamgldhnfcikbaa
set_option maxRecDepth 100000
namespace Go.Proofs.Ytamgldhnfcikbaa
open Go.RowKit

theorem cntB_step (f : Nat → Bool) (n : Nat) : cntB f (n + 1) ≤ cntB f n + 1 := by
  show cntB f n + (if f (n + 1) then 1 else 0) ≤ _
  split <;> omega
theorem cntB_mono (f : Nat → Bool) {i j : Nat} (h : i ≤ j) : cntB f i ≤ cntB f j := by
  induction j with
  | zero =>
    obtain rfl : i = 0 := by omega
    exact Nat.le_refl _
  | succ j ih =>
    by_cases e : i = j + 1
    · subst e; exact Nat.le_refl _
    · exact Nat.le_trans (ih (by omega)) (Nat.le_add_right _ _)
theorem cntB_lt (f : Nat → Bool) {i j : Nat} (h : i < j) (hf : f j = true) : cntB f i < cntB f j := by
  cases j with
  | zero => omega
  | succ j =>
    have := cntB_mono f (show i ≤ j by omega)
    show _ < cntB f j + (if f (j + 1) then 1 else 0)
    rw [hf, if_pos rfl]; omega
theorem cntB_onto (f : Nat → Bool) : ∀ n s, s ≤ cntB f n → ∃ b, b ≤ n ∧ cntB f b = s
  | 0, s, h => ⟨0, Nat.le_refl _, (Nat.le_zero.1 h).symm⟩
  | n + 1, s, h => by
    by_cases e : s ≤ cntB f n
    · obtain ⟨b, h1, h2⟩ := cntB_onto f n s e
      exact ⟨b, by omega, h2⟩
    · exact ⟨n + 1, Nat.le_refl _, by have := cntB_step f n; omega⟩
theorem has_stripe {f : Nat → Bool} {a : Arc3} (h1 : f a.lo = true) (h2 : f (a.hi + 1) = true) (b : Nat) : (a.has b = true) ↔ (cntB f a.lo ≤ cntB f b ∧ cntB f b ≤ cntB f a.hi) := by
  unfold Arc3.has
  rw [Bool.and_eq_true, decide_eq_true_eq, decide_eq_true_eq]
  refine ⟨fun h => ⟨cntB_mono f h.1, cntB_mono f h.2⟩, fun h => ⟨?_, ?_⟩⟩
  · by_cases e : b < a.lo
    · have := cntB_lt f e h1; omega
    · omega
  · by_cases e : a.hi + 1 ≤ b
    · have h3 := cntB_lt f (Nat.lt_succ_self a.hi) h2
      have h4 := cntB_mono f e
      have h5 : cntB f a.hi < cntB f (a.hi + 1) := h3
      omega
    · omega
def Marks (f : Nat → Bool) (l : List Arc3) : Prop := ∀ a ∈ l, f a.lo = true ∧ f (a.hi + 1) = true
theorem marks_of {f : Nat → Bool} {m : List Sta} (h : ∀ x, f x = true ↔ Begs (m.flatMap Sta.arcs) x) {s : Sta} (hs : s ∈ m) : Marks f s.arcs := fun a ha =>
  ⟨(h _).2 ⟨a, List.mem_flatMap.2 ⟨s, hs, ha⟩, .inl rfl⟩, (h _).2 ⟨a, List.mem_flatMap.2 ⟨s, hs, ha⟩, .inr rfl⟩⟩
theorem first_some {l : List Arc3} {b : Nat} {t : Int} (h0 : 0 ≤ t) (h : firstTo l b = t) : ∃ a ∈ l, a.has b = true ∧ a.dest = t := by
  induction l with
  | nil =>
    have h : (-1 : Int) = t := h
    omega
  | cons a l ih =>
    have h : (if a.has b then a.dest else firstTo l b) = t := h
    by_cases e : a.has b = true
    · rw [if_pos e] at h
      exact ⟨a, List.mem_cons_self .., e, h⟩
    · rw [if_neg e] at h
      obtain ⟨c, h1, h2⟩ := ih h
      exact ⟨c, List.mem_cons_of_mem _ h1, h2⟩
theorem first_of {n : Nat} {l : List Arc3} (hf : fitsB n l = true) {b : Nat} {a : Arc3} (ha : a ∈ l) (hb : a.has b = true) : firstTo l b = a.dest := by
  obtain ⟨k, hk, rfl⟩ := List.getElem_of_mem ha
  refine firstTo_at hk (fun i hi hik => ?_) hb
  have h1 := fits_rise hf k hk i hik
  unfold Arc3.has at hb ⊢
  rw [Bool.and_eq_true, decide_eq_true_eq, decide_eq_true_eq] at hb
  rw [Bool.and_eq_false_iff]
  right
  rw [decide_eq_false_iff_not]; omega
theorem first_iff {n : Nat} {l : List Arc3} (hf : fitsB n l = true) {b : Nat} {t : Int} (h0 : 0 ≤ t) : firstTo l b = t ↔ ∃ a ∈ l, a.has b = true ∧ a.dest = t :=
  ⟨first_some h0, fun ⟨_, ha, hb, e⟩ => (first_of hf ha hb).trans e⟩
theorem entry_iff {f : Nat → Bool} {n : Nat} {l : List Arc3} (hm : Marks f l) (hf : fitsB n l = true) {b : Nat} {t : Int} (h0 : 0 ≤ t) : firstTo l b = t ↔ ∃ a ∈ l, a.dest = t ∧ cntB f a.lo ≤ cntB f b ∧ cntB f b ≤ cntB f a.hi := by
  rw [first_iff hf h0]
  constructor
  · rintro ⟨a, ha, hb, e⟩
    exact ⟨a, ha, e, (has_stripe (hm a ha).1 (hm a ha).2 b).1 hb⟩
  · rintro ⟨a, ha, e, hb⟩
    exact ⟨a, ha, (has_stripe (hm a ha).1 (hm a ha).2 b).2 hb, e⟩
end Go.Proofs.Ytamgldhnfcikbaa
set_option maxRecDepth 100000
namespace Go.Proofs.Ytamgldhnfcikbaa
open Go.RowKit

def entA (f : Nat → Bool) (k : Nat) (a : Arc3) : List (Nat × Nat × Nat) := (List.range (cntB f a.hi + 1 - cntB f a.lo)).map fun i => (a.dest.toNat, k, cntB f a.lo + i)
def entS (f : Nat → Bool) (k : Nat) (l : List Arc3) : List (Nat × Nat × Nat) := l.flatMap (entA f k)
def arcsOf (m : List Sta) (k : Nat) : List Arc3 := ((m[k]?).map Sta.arcs).getD []
def entU (f : Nat → Bool) (m : List Sta) (n : Nat) : List (Nat × Nat × Nat) := (List.range n).flatMap fun k => entS f k (arcsOf m k)
theorem arcsOf_at {m : List Sta} {k : Nat} (h : k < m.length) : arcsOf m k = m[k].arcs := by
  unfold arcsOf
  rw [List.getElem?_eq_getElem h]; rfl
theorem mem_entA {f : Nat → Bool} {k : Nat} {a : Arc3} {x : Nat × Nat × Nat} : x ∈ entA f k a ↔ x.1 = a.dest.toNat ∧ x.2.1 = k ∧ cntB f a.lo ≤ x.2.2 ∧ x.2.2 ≤ cntB f a.hi := by
  unfold entA
  rw [List.mem_map]
  constructor
  · rintro ⟨i, hi, rfl⟩
    rw [List.mem_range] at hi
    exact ⟨rfl, rfl, Nat.le_add_right _ _, by show cntB f a.lo + i ≤ _; omega⟩
  · obtain ⟨t, s, q⟩ := x
    rintro ⟨h1, h2, h3, h4⟩
    have h3 : cntB f a.lo ≤ q := h3
    have h4 : q ≤ cntB f a.hi := h4
    have h1 : t = _ := h1
    have h2 : s = k := h2
    refine ⟨q - cntB f a.lo, by rw [List.mem_range]; omega, ?_⟩
    rw [h1, h2, show cntB f a.lo + (q - cntB f a.lo) = q by omega]
theorem mem_entS {f : Nat → Bool} {k : Nat} {l : List Arc3} {x : Nat × Nat × Nat} : x ∈ entS f k l ↔ ∃ a ∈ l, x.1 = a.dest.toNat ∧ x.2.1 = k ∧ cntB f a.lo ≤ x.2.2 ∧ x.2.2 ≤ cntB f a.hi := by
  unfold entS
  rw [List.mem_flatMap]
  exact exists_congr fun a => and_congr_right fun _ => mem_entA
theorem mem_entU {f : Nat → Bool} {m : List Sta} {n : Nat} {x : Nat × Nat × Nat} : x ∈ entU f m n ↔ x.2.1 < n ∧ ∃ a ∈ arcsOf m x.2.1, x.1 = a.dest.toNat ∧ cntB f a.lo ≤ x.2.2 ∧ x.2.2 ≤ cntB f a.hi := by
  unfold entU
  rw [List.mem_flatMap]
  constructor
  · rintro ⟨k, hk, h⟩
    rw [List.mem_range] at hk
    obtain ⟨a, ha, h1, h2, h3⟩ := mem_entS.1 h
    rw [h2]
    exact ⟨hk, a, ha, h1, h3⟩
  · rintro ⟨hk, a, ha, h1, h3⟩
    exact ⟨x.2.1, List.mem_range.2 hk, mem_entS.2 ⟨a, ha, h1, rfl, h3⟩⟩
theorem entU_succ (f : Nat → Bool) (m : List Sta) (n : Nat) : entU f m (n + 1) = entU f m n ++ entS f n (arcsOf m n) := by
  unfold entU
  rw [List.range_succ, List.flatMap_append]; simp
theorem entS_take (f : Nat → Bool) (k : Nat) {l : List Arc3} {j : Nat} (h : j < l.length) : entS f k (l.take (j + 1)) = entS f k (l.take j) ++ entA f k l[j] := by
  unfold entS
  rw [List.take_succ_eq_append_getElem h, List.flatMap_append]; simp
theorem entA_apart (f : Nat → Bool) (k : Nat) (a : Arc3) : (entA f k a).Pairwise fun x y => x.2 ≠ y.2 := by
  unfold entA
  rw [List.pairwise_map]
  refine List.Pairwise.imp (fun {i j} h => ?_) List.pairwise_lt_range
  intro e
  have e2 := congrArg Prod.snd e
  have e2 : cntB f a.lo + i = cntB f a.lo + j := e2
  omega
theorem entS_apart {f : Nat → Bool} (k : Nat) {n : Nat} {l : List Arc3} (hm : Marks f l) (hf : fitsB n l = true) : (entS f k l).Pairwise fun x y => x.2 ≠ y.2 := by
  unfold entS
  rw [List.pairwise_flatMap]
  refine ⟨fun a _ => entA_apart f k a, ?_⟩
  rw [List.pairwise_iff_getElem]
  intro i j hi hj hij x hx y hy e
  obtain ⟨_, _, h1, h2⟩ := mem_entA.1 hx
  obtain ⟨_, _, h3, h4⟩ := mem_entA.1 hy
  have h5 := cntB_lt f (fits_rise hf j hj i hij) (hm _ (List.getElem_mem hj)).1
  rw [e] at h2
  omega
theorem entU_apart {f : Nat → Bool} {m : List Sta} (n : Nat) {c : Nat} (hm : ∀ k, Marks f (arcsOf m k)) (hf : ∀ k, fitsB c (arcsOf m k) = true) : (entU f m n).Pairwise fun x y => x.2 ≠ y.2 := by
  unfold entU
  rw [List.pairwise_flatMap]
  refine ⟨fun k _ => entS_apart k (hm k) (hf k), List.Pairwise.imp (fun {i j} h => ?_) List.pairwise_lt_range⟩
  intro x hx y hy e
  obtain ⟨_, _, _, h1, _⟩ := mem_entS.1 hx
  obtain ⟨_, _, _, h2, _⟩ := mem_entS.1 hy
  rw [e] at h1
  omega
def sel (E : List (Nat × Nat × Nat)) (t : Nat) : List (Nat × Nat) := (E.filter fun x => x.1 == t).map Prod.snd
theorem sel_snoc (E : List (Nat × Nat × Nat)) (x : Nat × Nat × Nat) (t : Nat) : sel (E ++ [x]) t = if t = x.1 then sel E t ++ [x.2] else sel E t := by
  unfold sel
  rw [List.filter_append, List.map_append]
  by_cases e : t = x.1
  · subst e; simp
  · have : (x.1 == t) = false := by rw [beq_eq_false_iff_ne]; exact fun h => e h.symm
    simp [this, e]
theorem mem_sel {E : List (Nat × Nat × Nat)} {t : Nat} {p : Nat × Nat} : p ∈ sel E t ↔ (t, p) ∈ E := by
  unfold sel
  rw [List.mem_map]
  constructor
  · rintro ⟨x, hx, rfl⟩
    rw [List.mem_filter, beq_iff_eq] at hx
    obtain ⟨h1, h2⟩ := hx
    rw [← h2]; exact h1
  · intro h
    exact ⟨(t, p), List.mem_filter.2 ⟨h, by simp⟩, rfl⟩
theorem sel_apart {E : List (Nat × Nat × Nat)} (h : E.Pairwise fun x y => x.2 ≠ y.2) (t : Nat) : (sel E t).Nodup := by
  unfold sel
  rw [List.Nodup, List.pairwise_map]
  exact h.filter _
theorem sel_next {f : Nat → Bool} {m : List Sta} {c : Nat} (hm : ∀ k, Marks f (arcsOf m k)) (hf : ∀ k, fitsB c (arcsOf m k) = true) {s t b : Nat} (hs : s < m.length) : (s, cntB f b) ∈ sel (entU f m m.length) t ↔ nextS m s b = t := by
  rw [mem_sel, mem_entU]
  have hn : nextS m s b = firstTo (arcsOf m s) b := by
    unfold nextS
    rw [dif_pos ⟨by omega, by simpa using hs⟩, arcsOf_at hs]; rfl
  rw [hn, entry_iff (hm s) (hf s) (by omega)]
  constructor
  · rintro ⟨_, a, ha, h1, h2⟩
    have ha : a ∈ arcsOf m s := ha
    obtain ⟨i, hi, rfl⟩ := List.getElem_of_mem ha
    have h3 := (fits_arc (hf s) hi).2.1
    have h1 : t = _ := h1
    exact ⟨_, ha, by omega, h2⟩
  · rintro ⟨a, ha, h1, h2⟩
    refine ⟨hs, a, ha, ?_, h2⟩
    show t = _
    omega
end Go.Proofs.Ytamgldhnfcikbaa
