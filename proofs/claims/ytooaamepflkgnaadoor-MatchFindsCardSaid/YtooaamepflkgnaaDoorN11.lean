/- Texts that a proof rests on: Sets of places, as runs, rising. | A node in a block of its own. | Rows of nodes of one's own: stores, and cuts. | Contracts of byteset that regex calls; '==' between sets. -/
import Derived.Test.YtooaamepflkgnaaDoorN10
import Derived.ChangeKeysEq
set_option maxRecDepth 20000
namespace Go.Proofs.YtooaamepflkgnaaDoor
open Go.RowKit

/-- What runs have. -/
def mem (L : List (Int × Int)) (x : Int) : Prop := ∃ r ∈ L, r.1 ≤ x ∧ x ≤ r.2
/-- Each has something; between two something lies. -/
def Nrm (L : List (Int × Int)) : Prop := (∀ r ∈ L, r.1 ≤ r.2) ∧ L.Pairwise (fun a b => a.2 + 1 < b.1)
theorem mem_nil (x : Int) : mem [] x ↔ False := by simp [mem]
theorem mem_cons (r : Int × Int) (L : List (Int × Int)) (x : Int) : mem (r :: L) x ↔ (r.1 ≤ x ∧ x ≤ r.2) ∨ mem L x := by simp [mem]
theorem mem_append (A B : List (Int × Int)) (x : Int) : mem (A ++ B) x ↔ mem A x ∨ mem B x := by
  simp only [mem, List.mem_append, or_and_right, exists_or]
theorem Nrm.nil : Nrm [] := ⟨by simp, List.Pairwise.nil⟩
theorem Nrm.one {lo hi : Int} (h : lo ≤ hi) : Nrm [(lo, hi)] := ⟨by simp [h], by simp⟩
theorem Nrm.cons {r : Int × Int} {L : List (Int × Int)} : Nrm (r :: L) ↔ r.1 ≤ r.2 ∧ (∀ q ∈ L, r.2 + 1 < q.1) ∧ Nrm L := by
  unfold Nrm
  simp only [List.mem_cons, forall_eq_or_imp, List.pairwise_cons]
  exact ⟨fun ⟨⟨a, b⟩, c, d⟩ => ⟨a, c, b, d⟩, fun ⟨a, c, b, d⟩ => ⟨⟨a, b⟩, c, d⟩⟩
theorem Nrm.append {A B : List (Int × Int)} : Nrm (A ++ B) ↔ Nrm A ∧ Nrm B ∧ ∀ a ∈ A, ∀ b ∈ B, a.2 + 1 < b.1 := by
  unfold Nrm
  rw [List.pairwise_append]
  simp only [List.mem_append, or_imp, forall_and]
  exact ⟨fun ⟨⟨a, b⟩, c, d, e⟩ => ⟨⟨a, c⟩, ⟨b, d⟩, e⟩, fun ⟨⟨a, c⟩, ⟨b, d⟩, e⟩ => ⟨⟨a, b⟩, c, d, e⟩⟩
theorem Nrm.drop {L : List (Int × Int)} (h : Nrm L) (k : Nat) : Nrm (L.drop k) := by
  have := List.take_append_drop k L
  rw [← this, Nrm.append] at h
  exact h.2.1
/-- How many runs at the front end below n. -/
def below (n : Int) : List (Int × Int) → Nat
  | [] => 0
  | r :: L => if r.2 < n then below n L + 1 else 0
theorem below_le (n : Int) (L : List (Int × Int)) : below n L ≤ L.length := by
  induction L with
  | nil => simp [below]
  | cons r L ih => unfold below; split <;> simp; omega
theorem below_lt (n : Int) : ∀ (L : List (Int × Int)) (i : Nat) (h : i < L.length), i < below n L → L[i].2 < n
  | r :: L, 0, _, hb => by
    unfold below at hb
    split at hb
    · simpa
    · omega
  | r :: L, i + 1, h, hb => by
    unfold below at hb
    split at hb
    · have := below_lt n L i (by simpa using h) (by omega)
      simpa
    · omega
theorem below_ge (n : Int) : ∀ (L : List (Int × Int)), Nrm L → ∀ (i : Nat) (h : i < L.length), below n L ≤ i → n ≤ L[i].2
  | r :: L, hN, 0, _, hb => by
    unfold below at hb
    split at hb
    · omega
    · simp; omega
  | r :: L, hN, i + 1, h, hb => by
    have hN2 := Nrm.cons.1 hN
    have hi : i < L.length := by simpa using h
    unfold below at hb
    split at hb
    · have := below_ge n L hN2.2.2 i hi (by omega)
      simpa
    · have h1 := hN2.2.1 L[i] (List.getElem_mem hi)
      have h2 := hN2.2.2.1 L[i] (List.getElem_mem hi)
      simp; omega
theorem drop_ge {n : Int} {L : List (Int × Int)} (hN : Nrm L) {r : Int × Int} (hr : r ∈ L.drop (below n L)) : n ≤ r.2 := by
  obtain ⟨i, hi, rfl⟩ := List.getElem_of_mem hr
  rw [List.getElem_drop]
  exact below_ge n L hN _ _ (Nat.le_add_right _ _)
theorem take_lt {n : Int} {L : List (Int × Int)} {r : Int × Int} (hr : r ∈ L.take (below n L)) : r.2 < n := by
  obtain ⟨i, hi, rfl⟩ := List.getElem_of_mem hr
  rw [List.getElem_take]
  rw [List.length_take] at hi
  exact below_lt n L i (by omega) (by omega)
/-- How many runs at the front touch what they and lo to hi make; and that. -/
def absorb : Int → Int → List (Int × Int) → Nat × Int × Int
  | lo, hi, [] => (0, lo, hi)
  | lo, hi, r :: B => if r.1 ≤ hi + 1 then ((absorb (min lo r.1) (max hi r.2) B).1 + 1, (absorb (min lo r.1) (max hi r.2) B).2) else (0, lo, hi)
theorem absorb_le (lo hi : Int) (B : List (Int × Int)) : (absorb lo hi B).1 ≤ B.length := by
  induction B generalizing lo hi with
  | nil => simp [absorb]
  | cons r B ih =>
    unfold absorb
    split
    · simp only [List.length_cons]; exact Nat.succ_le_succ (ih _ _)
    · simp
theorem absorb_good : ∀ (B : List (Int × Int)) (lo hi : Int), lo ≤ hi → Nrm B → (∀ r ∈ B, lo - 1 ≤ r.2) →
    (Nrm ((absorb lo hi B).2 :: B.drop (absorb lo hi B).1) ∧ (∀ x, mem ((absorb lo hi B).2 :: B.drop (absorb lo hi B).1) x ↔ (lo ≤ x ∧ x ≤ hi) ∨ mem B x) ∧
      ∀ c, c < lo → (∀ r ∈ B, c < r.1) → ∀ r ∈ (absorb lo hi B).2 :: B.drop (absorb lo hi B).1, c < r.1)
  | [], lo, hi, h, _, _ => by
    simp only [absorb, List.drop_nil]
    exact ⟨.one h, fun x => by simp [mem], fun c h1 _ r hr => by simp at hr; subst hr; exact h1⟩
  | r :: B, lo, hi, h, hN, hB => by
    have hN2 := Nrm.cons.1 hN
    have hr := hB r (by simp)
    by_cases ht : r.1 ≤ hi + 1
    · have e : absorb lo hi (r :: B) = ((absorb (min lo r.1) (max hi r.2) B).1 + 1, (absorb (min lo r.1) (max hi r.2) B).2) := by rw [absorb, if_pos ht]
      have ih := absorb_good B (min lo r.1) (max hi r.2) (by omega) hN2.2.2 (fun q hq => by have := hB q (by simp [hq]); omega)
      rw [e]
      simp only [List.drop_succ_cons]
      refine ⟨ih.1, fun x => ?_, fun c h1 h2 q hq => ?_⟩
      · rw [ih.2.1, mem_cons, ← or_assoc]
        refine or_congr ?_ Iff.rfl
        omega
      · exact ih.2.2 c (by have := h2 r (by simp); omega) (fun q hq => h2 q (by simp [hq])) q hq
    · have e : absorb lo hi (r :: B) = (0, lo, hi) := by rw [absorb, if_neg ht]
      rw [e]
      simp only [List.drop_zero]
      refine ⟨Nrm.cons.2 ⟨h, fun q hq => ?_, hN⟩, fun x => mem_cons _ _ _, fun c h1 h2 q hq => ?_⟩
      · rcases List.mem_cons.1 hq with rfl | hq
        · show hi + 1 < q.1; omega
        · have := hN2.2.1 q hq
          show hi + 1 < q.1
          omega
      · rcases List.mem_cons.1 hq with rfl | hq
        · exact h1
        · exact h2 q hq
/-- Numbers put into a set. -/
def addR (L : List (Int × Int)) (lo hi : Int) : List (Int × Int) :=
  if hi < lo then L else
    L.take (below (lo - 1) L) ++ (absorb lo hi (L.drop (below (lo - 1) L))).2 :: L.drop (below (lo - 1) L + (absorb lo hi (L.drop (below (lo - 1) L))).1)
theorem add_good {L : List (Int × Int)} (hN : Nrm L) (lo hi : Int) : Nrm (addR L lo hi) ∧ ∀ x, mem (addR L lo hi) x ↔ mem L x ∨ (lo ≤ x ∧ x ≤ hi) := by
  unfold addR
  by_cases h : hi < lo
  · rw [if_pos h]
    exact ⟨hN, fun x => by constructor; exact .inl; rintro (h | h); exact h; omega⟩
  · rw [if_neg h]
    obtain ⟨b, hb⟩ : ∃ b, b = below (lo - 1) L := ⟨_, rfl⟩
    have hge : ∀ r ∈ L.drop b, lo - 1 ≤ r.2 := fun r hr => drop_ge hN (by rw [← hb]; exact hr)
    have hlt : ∀ r ∈ L.take b, r.2 < lo - 1 := fun r hr => take_lt (by rw [← hb]; exact hr)
    rw [← hb]
    have hsplit := List.take_append_drop b L
    have hN' := hN
    rw [← hsplit, Nrm.append] at hN'
    obtain ⟨hA, hB, hAB⟩ := hN'
    have hg := absorb_good (L.drop b) lo hi (by omega) hB hge
    rw [← List.drop_drop]
    refine ⟨Nrm.append.2 ⟨hA, hg.1, fun a ha q hq => ?_⟩, fun x => ?_⟩
    · exact hg.2.2 (a.2 + 1) (by have := hlt a ha; omega) (fun r hr => hAB a ha r hr) q hq
    · rw [mem_append, hg.2.1]
      conv => rhs; rw [← hsplit, mem_append]
      constructor
      · rintro (h1 | h1 | h1)
        · exact .inl (.inl h1)
        · exact .inr h1
        · exact .inl (.inr h1)
      · rintro ((h1 | h1) | h1)
        · exact .inl h1
        · exact .inr (.inr h1)
        · exact .inr (.inl h1)
theorem Nrm.add {L : List (Int × Int)} (hN : Nrm L) (lo hi : Int) : Nrm (addR L lo hi) := (add_good hN lo hi).1
theorem mem_add {L : List (Int × Int)} (hN : Nrm L) (lo hi x : Int) : mem (addR L lo hi) x ↔ mem L x ∨ (lo ≤ x ∧ x ≤ hi) := (add_good hN lo hi).2 x
/-- All of another set put into a set. -/
def joinR (L M : List (Int × Int)) : List (Int × Int) := M.foldl (fun a r => addR a r.1 r.2) L
theorem join_good (M : List (Int × Int)) : ∀ {L : List (Int × Int)}, Nrm L → Nrm (joinR L M) ∧ ∀ x, mem (joinR L M) x ↔ mem L x ∨ mem M x := by
  induction M with
  | nil => intro L h; exact ⟨h, fun x => by simp [joinR, mem]⟩
  | cons r M ih =>
    intro L h
    have := ih (h.add r.1 r.2)
    refine ⟨this.1, fun x => ?_⟩
    show mem (joinR (addR L r.1 r.2) M) x ↔ _
    rw [this.2, mem_add h, mem_cons, or_assoc]
theorem join_take (L M : List (Int × Int)) (k : Nat) (h : k < M.length) : joinR L (M.take (k + 1)) = addR (joinR L (M.take k)) M[k].1 M[k].2 := by
  unfold joinR
  rw [List.take_succ_eq_append_getElem h, List.foldl_append]
  rfl
/-- From lo to hi, but for gaps: what is put, and what is left of it. -/
def mloop : List (Int × Int) → Int → Int → List (Int × Int) → List (Int × Int) × Int
  | acc, lo, _, [] => (acc, lo)
  | acc, lo, hi, g :: gs => if hi < g.1 then (acc, lo) else mloop (addR acc lo (g.1 - 1)) (g.2 + 1) hi gs
theorem mloop_good : ∀ (gs : List (Int × Int)) {acc : List (Int × Int)} (lo hi : Int), Nrm acc → Nrm gs → (∀ g ∈ gs, lo ≤ g.2) →
    Nrm (mloop acc lo hi gs).1 ∧ ∀ x, (mem (mloop acc lo hi gs).1 x ∨ ((mloop acc lo hi gs).2 ≤ x ∧ x ≤ hi)) ↔ mem acc x ∨ ((lo ≤ x ∧ x ≤ hi) ∧ ¬ mem gs x)
  | [], acc, lo, hi, hA, _, _ => ⟨hA, fun x => by simp [mloop, mem]⟩
  | g :: gs, acc, lo, hi, hA, hG, hlo => by
    have hG2 := Nrm.cons.1 hG
    by_cases h : hi < g.1
    · rw [mloop, if_pos h]
      refine ⟨hA, fun x => or_congr Iff.rfl ⟨fun h1 => ⟨h1, ?_⟩, fun h1 => h1.1⟩⟩
      rw [mem_cons]
      rintro (h2 | ⟨q, hq, h2, h3⟩)
      · omega
      · have := hG2.2.1 q hq; omega
    · rw [mloop, if_neg h]
      have ih := mloop_good gs (g.2 + 1) hi (hA.add lo (g.1 - 1)) hG2.2.2 (fun q hq => by have := hG2.2.1 q hq; have := hG2.2.2.1 q hq; omega)
      refine ⟨ih.1, fun x => ?_⟩
      rw [ih.2, mem_add hA, mem_cons]
      have hg := hlo g (by simp)
      have hgs : mem gs x → g.2 + 1 < x := fun ⟨q, hq, h2, h3⟩ => by have := hG2.2.1 q hq; omega
      by_cases hm : mem gs x
      · have := hgs hm
        simp only [hm, not_true, and_false, or_false, or_true]
        constructor
        · rintro (h | h)
          · exact h
          · omega
        · exact .inl
      · simp only [hm, not_false_eq_true, and_true, or_false]
        rw [or_assoc]
        refine or_congr Iff.rfl ?_
        omega
/-- What a set has and another one hasn't. -/
def minusR (L M : List (Int × Int)) : List (Int × Int) :=
  L.foldl (fun a r => addR (mloop a r.1 r.2 (M.drop (below r.1 M))).1 (mloop a r.1 r.2 (M.drop (below r.1 M))).2 r.2) []
theorem minus_step {M a : List (Int × Int)} (hM : Nrm M) (ha : Nrm a) (r : Int × Int) :
    Nrm (addR (mloop a r.1 r.2 (M.drop (below r.1 M))).1 (mloop a r.1 r.2 (M.drop (below r.1 M))).2 r.2) ∧
      ∀ x, mem (addR (mloop a r.1 r.2 (M.drop (below r.1 M))).1 (mloop a r.1 r.2 (M.drop (below r.1 M))).2 r.2) x ↔ mem a x ∨ ((r.1 ≤ x ∧ x ≤ r.2) ∧ ¬ mem M x) := by
  have h := mloop_good (M.drop (below r.1 M)) (acc := a) r.1 r.2 ha (hM.drop _) (fun g hg => drop_ge hM hg)
  refine ⟨h.1.add _ _, fun x => ?_⟩
  rw [mem_add h.1, h.2]
  refine or_congr Iff.rfl (and_congr_right fun hx => not_congr ?_)
  conv => rhs; rw [← List.take_append_drop (below r.1 M) M, mem_append]
  refine ⟨.inr, ?_⟩
  rintro (⟨q, hq, h1, h2⟩ | h1)
  · have := take_lt hq; omega
  · exact h1
theorem minus_from {M : List (Int × Int)} (hM : Nrm M) : ∀ (L a : List (Int × Int)), Nrm a →
    Nrm (L.foldl (fun a r => addR (mloop a r.1 r.2 (M.drop (below r.1 M))).1 (mloop a r.1 r.2 (M.drop (below r.1 M))).2 r.2) a) ∧
      ∀ x, mem (L.foldl (fun a r => addR (mloop a r.1 r.2 (M.drop (below r.1 M))).1 (mloop a r.1 r.2 (M.drop (below r.1 M))).2 r.2) a) x ↔ mem a x ∨ (mem L x ∧ ¬ mem M x)
  | [], a, ha => ⟨ha, fun x => by simp [mem]⟩
  | r :: L, a, ha => by
    have h1 := minus_step hM ha r
    have h2 := minus_from hM L _ h1.1
    refine ⟨h2.1, fun x => ?_⟩
    rw [List.foldl_cons, h2.2, h1.2, mem_cons, or_assoc, ← or_and_right]
theorem Nrm.minus (L : List (Int × Int)) {M : List (Int × Int)} (hM : Nrm M) : Nrm (minusR L M) := (minus_from hM L [] .nil).1
theorem mem_minus (L : List (Int × Int)) {M : List (Int × Int)} (hM : Nrm M) (x : Int) : mem (minusR L M) x ↔ mem L x ∧ ¬ mem M x := by
  have := (minus_from hM L [] .nil).2 x
  rw [mem_nil, false_or] at this
  exact this
theorem Nrm.join {L : List (Int × Int)} (h : Nrm L) (M : List (Int × Int)) : Nrm (joinR L M) := (join_good M h).1
theorem mem_join {L : List (Int × Int)} (h : Nrm L) (M : List (Int × Int)) (x : Int) : mem (joinR L M) x ↔ mem L x ∨ mem M x := (join_good M h).2 x
/-- All of it is a place in a text of so many bytes. -/
def In (n : Int) (L : List (Int × Int)) : Prop := ∀ x, mem L x → 0 ≤ x ∧ x ≤ n
theorem In.run {n : Int} {L : List (Int × Int)} (hN : Nrm L) (h : In n L) {r : Int × Int} (hr : r ∈ L) : 0 ≤ r.1 ∧ r.1 ≤ r.2 ∧ r.2 ≤ n := by
  have h1 := hN.1 r hr
  have h2 := h r.1 ⟨r, hr, Int.le_refl _, h1⟩
  have h3 := h r.2 ⟨r, hr, h1, Int.le_refl _⟩
  omega
theorem In.length {n : Int} : ∀ {L : List (Int × Int)} (c : Int), Nrm L → (∀ r ∈ L, c ≤ r.1 ∧ r.2 ≤ n) → c ≤ n + 1 → (L.length : Int) ≤ n + 1 - c
  | [], c, _, _, hc => by simp; omega
  | r :: L, c, hN, h, _ => by
    have hN2 := Nrm.cons.1 hN
    have hr := h r (by simp)
    have := In.length (n := n) (L := L) (r.2 + 1) hN2.2.2 (fun q hq => ⟨by have := hN2.2.1 q hq; omega, (h q (by simp [hq])).2⟩) (by omega)
    simp only [List.length_cons]
    have := hN2.1
    omega
theorem In.len {n : Int} {L : List (Int × Int)} (hN : Nrm L) (h : In n L) (hn : 0 ≤ n) : (L.length : Int) ≤ n + 1 := by
  have := In.length (n := n) (L := L) 0 hN (fun r hr => by have := h.run hN hr; omega) (by omega)
  omega
/-- The last one. -/
def lastR (L : List (Int × Int)) : Int := (L.getLast?.getD (0, 0)).2
theorem last_good {L : List (Int × Int)} (hN : Nrm L) (h0 : L ≠ []) : mem L (lastR L) ∧ ∀ x, mem L x → x ≤ lastR L := by
  obtain ⟨A, r, rfl⟩ : ∃ A r, L = A ++ [r] := ⟨L.dropLast, L.getLast h0, (List.dropLast_concat_getLast h0).symm⟩
  have e : lastR (A ++ [r]) = r.2 := by simp [lastR]
  rw [e]
  obtain ⟨hA, hB, hAB⟩ := Nrm.append.1 hN
  have hr : r.1 ≤ r.2 := hB.1 r (by simp)
  refine ⟨(mem_append _ _ _).2 (.inr ⟨r, by simp, hr, Int.le_refl _⟩), fun x hx => ?_⟩
  rcases (mem_append _ _ _).1 hx with ⟨q, hq, h1, h2⟩ | ⟨q, hq, h1, h2⟩
  · have := hAB q hq r (by simp); omega
  · simp at hq; subst hq; exact h2
theorem mem_ne {L : List (Int × Int)} {x : Int} (h : mem L x) : L ≠ [] := by rintro rfl; simp [mem] at h
theorem mem_some {L : List (Int × Int)} (hN : Nrm L) (h0 : L ≠ []) : ∃ x, mem L x := ⟨_, (last_good hN h0).1⟩
/-- Two sets of the same places are the same runs. -/
theorem runs_eq : ∀ {L M : List (Int × Int)}, Nrm L → Nrm M → (∀ x, mem L x ↔ mem M x) → L = M
  | [], [], _, _, _ => rfl
  | [], r :: M, _, hM, h => absurd ((h r.1).2 ⟨r, by simp, Int.le_refl _, hM.1 r (by simp)⟩) (by simp [mem])
  | r :: L, [], hL, _, h => absurd ((h r.1).1 ⟨r, by simp, Int.le_refl _, hL.1 r (by simp)⟩) (by simp [mem])
  | r :: L, q :: M, hL, hM, h => by
    have hL2 := Nrm.cons.1 hL
    have hM2 := Nrm.cons.1 hM
    have lowL : ∀ x, mem (r :: L) x → r.1 ≤ x := fun x hx => by
      rcases (mem_cons _ _ _).1 hx with h | ⟨k, hk, h1, h2⟩
      · exact h.1
      · have := hL2.2.1 k hk; omega
    have lowM : ∀ x, mem (q :: M) x → q.1 ≤ x := fun x hx => by
      rcases (mem_cons _ _ _).1 hx with h | ⟨k, hk, h1, h2⟩
      · exact h.1
      · have := hM2.2.1 k hk; omega
    have m1 : mem (r :: L) r.1 := (mem_cons _ _ _).2 (.inl ⟨Int.le_refl _, hL2.1⟩)
    have m2 : mem (q :: M) q.1 := (mem_cons _ _ _).2 (.inl ⟨Int.le_refl _, hM2.1⟩)
    have e1 : r.1 = q.1 := by
      have a := lowM _ ((h _).1 m1)
      have b := lowL _ ((h _).2 m2)
      omega
    have gapL : ¬ mem (r :: L) (r.2 + 1) := fun hx => by
      rcases (mem_cons _ _ _).1 hx with h | ⟨k, hk, h1, h2⟩
      · omega
      · have := hL2.2.1 k hk; omega
    have gapM : ¬ mem (q :: M) (q.2 + 1) := fun hx => by
      rcases (mem_cons _ _ _).1 hx with h | ⟨k, hk, h1, h2⟩
      · omega
      · have := hM2.2.1 k hk; omega
    have e2 : r.2 = q.2 := by
      rcases Int.lt_trichotomy r.2 q.2 with hlt | he | hgt
      · exact absurd ((h _).2 ((mem_cons _ _ _).2 (.inl ⟨by have := hL2.1; omega, by omega⟩))) gapL
      · exact he
      · exact absurd ((h _).1 ((mem_cons _ _ _).2 (.inl ⟨by have := hM2.1; omega, by omega⟩))) gapM
    have e : r = q := Prod.ext e1 e2
    subst e
    congr 1
    refine runs_eq hL2.2.2 hM2.2.2 fun x => ?_
    have hx := h x
    rw [mem_cons, mem_cons] at hx
    constructor
    · intro hm
      rcases hx.1 (.inr hm) with h1 | h1
      · obtain ⟨k, hk, h2, h3⟩ := hm
        have := hL2.2.1 k hk; omega
      · exact h1
    · intro hm
      rcases hx.2 (.inr hm) with h1 | h1
      · obtain ⟨k, hk, h2, h3⟩ := hm
        have := hM2.2.1 k hk; omega
      · exact h1
end Go.Proofs.YtooaamepflkgnaaDoor
set_option maxRecDepth 20000
namespace Go.Proofs.YtooaamepflkgnaaDoor
open Go.RowKit

/-- Block b holds these cells of a node, and may be written. -/
def Box (w : World) (b : Nat) (c : Array Value) : Prop := w.heap[b]? = some (.cells c 28 (0, 0))
theorem Box.lt {w : World} {b : Nat} {c : Array Value} (h : Box w b c) : b < w.heap.size := lt_of_block h
theorem Box.new (w : World) (c : Array Value) {n : Nat} (hn : w.heap.size = n) : Box (w.alloc (.cells c 28)) n c := by subst hn; exact heap_alloc_new w _
theorem Box.lower {w w' : World} {b B : Nat} {c : Array Value} (h : Box w b c) (hb : Below B w w') (hB : b < B) : Box w' b c := (hb.block b hB).trans h
theorem Box.below {w w' : World} {b : Nat} {c : Array Value} (h : Box w b c) (hb : Below w.heap.size w w') : Box w' b c := h.lower hb h.lt
theorem Box.alloc {w : World} {b : Nat} {c : Array Value} (h : Box w b c) (o : Obj) : Box (w.alloc o) b c := h.below ((Below.refl _ _).alloc (Nat.le_refl _) _)
theorem Box.drew {w : World} {b : Nat} {c : Array Value} (h : Box w b c) : Box w.drew b c := h
theorem Box.grown {w w' : World} {b : Nat} {c : Array Value} {x : Option Nat} (h : Box w b c) (hg : w.grownBy w' x) (hx : x ≠ some b) : Box w' b c := (hg.block b h.lt (fun e => hx e.symm)).trans h
theorem Box.other {w : World} {b : Nat} {c : Array Value} (h : Box w b c) {a : Addr} (ha : b ≠ a.block) (u : Value) : Box (w.setCell a u) b c := (Below.heap_setCell _ _ _ _ ha).trans h
theorem Box.set {w : World} {b i : Nat} {c : Array Value} (h : Box w b c) (u : Value) : Box (w.setCell ⟨b, i, none⟩ u) b (c.setIfInBounds i u) := setCell_block h u
theorem Box.cell {w : World} {b : Nat} {c : Array Value} (h : Box w b c) (i : Nat) : w.cell? ⟨b, i, none⟩ = c[i]? := by
  unfold Box at h; simp [World.cell?, h]
theorem Box.free {w : World} {b : Nat} {c : Array Value} (h : Box w b c) (i : Nat) : w.frozen? ⟨b, i, none⟩ = false := by
  unfold Box at h; simp [World.frozen?, h]
theorem Box.cells {w : World} {b : Nat} {v0 v1 v2 v3 v4 v5 v6 v7 : Value} (h : Box w b #[v0, v1, v2, v3, v4, v5, v6, v7]) : w.cell? ⟨b, 0, none⟩ = some v0 ∧ w.cell? ⟨b, 1, none⟩ = some v1 ∧ w.cell? ⟨b, 2, none⟩ = some v2 ∧ w.cell? ⟨b, 3, none⟩ = some v3 ∧ w.cell? ⟨b, 4, none⟩ = some v4 ∧ w.cell? ⟨b, 5, none⟩ = some v5 ∧ w.cell? ⟨b, 6, none⟩ = some v6 ∧ w.cell? ⟨b, 7, none⟩ = some v7 :=
  ⟨h.cell 0, h.cell 1, h.cell 2, h.cell 3, h.cell 4, h.cell 5, h.cell 6, h.cell 7⟩
theorem Box.frees {w : World} {b : Nat} {c : Array Value} (h : Box w b c) : w.frozen? ⟨b, 0, none⟩ = false ∧ w.frozen? ⟨b, 1, none⟩ = false ∧ w.frozen? ⟨b, 2, none⟩ = false ∧ w.frozen? ⟨b, 3, none⟩ = false ∧ w.frozen? ⟨b, 4, none⟩ = false ∧ w.frozen? ⟨b, 5, none⟩ = false ∧ w.frozen? ⟨b, 6, none⟩ = false ∧ w.frozen? ⟨b, 7, none⟩ = false :=
  ⟨h.free 0, h.free 1, h.free 2, h.free 3, h.free 4, h.free 5, h.free 6, h.free 7⟩
theorem Box.set0 {w : World} {b : Nat} {v0 v1 v2 v3 v4 v5 v6 v7 : Value} (h : Box w b #[v0, v1, v2, v3, v4, v5, v6, v7]) (u : Value) : Box (w.setCell ⟨b, 0, none⟩ u) b #[u, v1, v2, v3, v4, v5, v6, v7] := by
  have := h.set (i := 0) u; simpa using this
theorem Box.set1 {w : World} {b : Nat} {v0 v1 v2 v3 v4 v5 v6 v7 : Value} (h : Box w b #[v0, v1, v2, v3, v4, v5, v6, v7]) (u : Value) : Box (w.setCell ⟨b, 1, none⟩ u) b #[v0, u, v2, v3, v4, v5, v6, v7] := by
  have := h.set (i := 1) u; simpa using this
theorem Box.set2 {w : World} {b : Nat} {v0 v1 v2 v3 v4 v5 v6 v7 : Value} (h : Box w b #[v0, v1, v2, v3, v4, v5, v6, v7]) (u : Value) : Box (w.setCell ⟨b, 2, none⟩ u) b #[v0, v1, u, v3, v4, v5, v6, v7] := by
  have := h.set (i := 2) u; simpa using this
theorem Box.set3 {w : World} {b : Nat} {v0 v1 v2 v3 v4 v5 v6 v7 : Value} (h : Box w b #[v0, v1, v2, v3, v4, v5, v6, v7]) (u : Value) : Box (w.setCell ⟨b, 3, none⟩ u) b #[v0, v1, v2, u, v4, v5, v6, v7] := by
  have := h.set (i := 3) u; simpa using this
theorem Box.set4 {w : World} {b : Nat} {v0 v1 v2 v3 v4 v5 v6 v7 : Value} (h : Box w b #[v0, v1, v2, v3, v4, v5, v6, v7]) (u : Value) : Box (w.setCell ⟨b, 4, none⟩ u) b #[v0, v1, v2, v3, u, v5, v6, v7] := by
  have := h.set (i := 4) u; simpa using this
theorem Box.set5 {w : World} {b : Nat} {v0 v1 v2 v3 v4 v5 v6 v7 : Value} (h : Box w b #[v0, v1, v2, v3, v4, v5, v6, v7]) (u : Value) : Box (w.setCell ⟨b, 5, none⟩ u) b #[v0, v1, v2, v3, v4, u, v6, v7] := by
  have := h.set (i := 5) u; simpa using this
theorem Box.set6 {w : World} {b : Nat} {v0 v1 v2 v3 v4 v5 v6 v7 : Value} (h : Box w b #[v0, v1, v2, v3, v4, v5, v6, v7]) (u : Value) : Box (w.setCell ⟨b, 6, none⟩ u) b #[v0, v1, v2, v3, v4, v5, u, v7] := by
  have := h.set (i := 6) u; simpa using this
theorem Box.set7 {w : World} {b : Nat} {v0 v1 v2 v3 v4 v5 v6 v7 : Value} (h : Box w b #[v0, v1, v2, v3, v4, v5, v6, v7]) (u : Value) : Box (w.setCell ⟨b, 7, none⟩ u) b #[v0, v1, v2, v3, v4, v5, v6, u] := by
  have := h.set (i := 7) u; simpa using this
theorem Box.store {w : World} {b : Nat} {v0 v1 v2 v3 v4 v5 v6 v7 : Value} (h : Box w b #[v0, v1, v2, v3, v4, v5, v6, v7]) (u0 u1 u2 u3 u4 u5 u6 u7 : Value) : Box ((((((((w.setCell ⟨b, 0, none⟩ u0).setCell ⟨b, 1, none⟩ u1).setCell ⟨b, 2, none⟩ u2).setCell ⟨b, 3, none⟩ u3).setCell ⟨b, 4, none⟩ u4).setCell ⟨b, 5, none⟩ u5).setCell ⟨b, 6, none⟩ u6).setCell ⟨b, 7, none⟩ u7) b #[u0, u1, u2, u3, u4, u5, u6, u7] :=
  ((((((((h.set0 u0).set1 u1).set2 u2).set3 u3).set4 u4).set5 u5).set6 u6).set7 u7)
theorem below_set8 {B b : Nat} {a w : World} (h : Below B a w) (hb : B ≤ b) (u0 u1 u2 u3 u4 u5 u6 u7 : Value) : Below B a ((((((((w.setCell ⟨b, 0, none⟩ u0).setCell ⟨b, 1, none⟩ u1).setCell ⟨b, 2, none⟩ u2).setCell ⟨b, 3, none⟩ u3).setCell ⟨b, 4, none⟩ u4).setCell ⟨b, 5, none⟩ u5).setCell ⟨b, 6, none⟩ u6).setCell ⟨b, 7, none⟩ u7) :=
  ((((((((h.setCell (p := ⟨b, 0, none⟩) hb _).setCell (p := ⟨b, 1, none⟩) hb _).setCell (p := ⟨b, 2, none⟩) hb _).setCell (p := ⟨b, 3, none⟩) hb _).setCell (p := ⟨b, 4, none⟩) hb _).setCell (p := ⟨b, 5, none⟩) hb _).setCell (p := ⟨b, 6, none⟩) hb _).setCell (p := ⟨b, 7, none⟩) hb _)
theorem Box.other8 {w : World} {d b : Nat} {c : Array Value} (h : Box w d c) (hb : d ≠ b) (u0 u1 u2 u3 u4 u5 u6 u7 : Value) : Box ((((((((w.setCell ⟨b, 0, none⟩ u0).setCell ⟨b, 1, none⟩ u1).setCell ⟨b, 2, none⟩ u2).setCell ⟨b, 3, none⟩ u3).setCell ⟨b, 4, none⟩ u4).setCell ⟨b, 5, none⟩ u5).setCell ⟨b, 6, none⟩ u6).setCell ⟨b, 7, none⟩ u7) d c :=
  ((((((((h.other (a := ⟨b, 0, none⟩) hb _).other (a := ⟨b, 1, none⟩) hb _).other (a := ⟨b, 2, none⟩) hb _).other (a := ⟨b, 3, none⟩) hb _).other (a := ⟨b, 4, none⟩) hb _).other (a := ⟨b, 5, none⟩) hb _).other (a := ⟨b, 6, none⟩) hb _).other (a := ⟨b, 7, none⟩) hb _)
theorem heap_set8 {w : World} {b c : Nat} (hb : c ≠ b) (u0 u1 u2 u3 u4 u5 u6 u7 : Value) : ((((((((w.setCell ⟨b, 0, none⟩ u0).setCell ⟨b, 1, none⟩ u1).setCell ⟨b, 2, none⟩ u2).setCell ⟨b, 3, none⟩ u3).setCell ⟨b, 4, none⟩ u4).setCell ⟨b, 5, none⟩ u5).setCell ⟨b, 6, none⟩ u6).setCell ⟨b, 7, none⟩ u7).heap[c]? = w.heap[c]? := by
  rw [Below.heap_setCell _ _ _ _ (by simpa using hb), Below.heap_setCell _ _ _ _ (by simpa using hb), Below.heap_setCell _ _ _ _ (by simpa using hb), Below.heap_setCell _ _ _ _ (by simpa using hb), Below.heap_setCell _ _ _ _ (by simpa using hb), Below.heap_setCell _ _ _ _ (by simpa using hb), Below.heap_setCell _ _ _ _ (by simpa using hb), Below.heap_setCell _ _ _ _ (by simpa using hb)]
theorem KidsN.set8 {w : World} {lo b : Nat} {l : List Pat} {ks : Value} (h : KidsN w lo l ks) (hb : b < lo) (u0 u1 u2 u3 u4 u5 u6 u7 : Value) : KidsN ((((((((w.setCell ⟨b, 0, none⟩ u0).setCell ⟨b, 1, none⟩ u1).setCell ⟨b, 2, none⟩ u2).setCell ⟨b, 3, none⟩ u3).setCell ⟨b, 4, none⟩ u4).setCell ⟨b, 5, none⟩ u5).setCell ⟨b, 6, none⟩ u6).setCell ⟨b, 7, none⟩ u7) lo l ks :=
  h.lower fun c h1 _ => heap_set8 (by omega) _ _ _ _ _ _ _ _
theorem KidsN.set1 {w : World} {lo b i : Nat} {l : List Pat} {ks : Value} (h : KidsN w lo l ks) (hb : b < lo) (u : Value) : KidsN (w.setCell ⟨b, i, none⟩ u) lo l ks :=
  h.lower fun c h1 _ => Below.heap_setCell _ _ _ _ (by show c ≠ b; omega)
theorem own_not {w : World} {base size n b : Nat} {e : TypeId} {v : Value} {xs : List Value} (h : w.ownsRow base e size v n xs) (hb : b < base) : v.ownBlock ≠ some b := fun e => by
  have := (h.lt b e).1; omega
theorem below_grown {a w w1 : World} {base n size : Nat} {e : TypeId} {v : Value} {xs : List Value} (h : Below a.heap.size a w) (hr : w.ownsRow base e size v n xs) (hg : w.grownBy w1 v.ownBlock) (hB : a.heap.size ≤ base) : Below a.heap.size a w1 :=
  h.grown hg h.size (fun k e => Nat.le_trans hB (hr.lt k e).1)
end Go.Proofs.YtooaamepflkgnaaDoor
set_option maxRecDepth 20000
namespace Go.Proofs.YtooaamepflkgnaaDoor
open Go.RowKit

theorem flatN_cons (q : Pat × Value) (l : List (Pat × Value)) : flatN (q :: l) = .int .i64 q.1.op :: .int .u64 (wd q.1.set 0) :: .int .u64 (wd q.1.set 1) :: .int .u64 (wd q.1.set 2) :: .int .u64 (wd q.1.set 3) :: .int .i64 q.1.lo :: .int .i64 q.1.hi :: q.2 :: flatN l := rfl
theorem flatN_append (a b : List (Pat × Value)) : flatN (a ++ b) = flatN a ++ flatN b := by simp [flatN]
theorem flatN_set : ∀ (L : List (Pat × Value)) (i : Nat) (_ : i < L.length) (p : Pat) (ks : Value), (((((((((flatN L).set (i * 8) (.int .i64 p.op)).set (i * 8 + 1) (.int .u64 (wd p.set 0))).set (i * 8 + 2) (.int .u64 (wd p.set 1))).set (i * 8 + 3) (.int .u64 (wd p.set 2))).set (i * 8 + 4) (.int .u64 (wd p.set 3))).set (i * 8 + 5) (.int .i64 p.lo)).set (i * 8 + 6) (.int .i64 p.hi)).set (i * 8 + 7) ks) = flatN (L.set i (p, ks))
  | q :: l, 0, _, p, ks => by rw [flatN_cons]; rfl
  | q :: l, i + 1, h, p, ks => by
    have ih := flatN_set l i (by simpa using h) p ks
    rw [List.set_cons_succ, flatN_cons, flatN_cons, ← ih]
    rw [show (i + 1) * 8 = i * 8 + 8 from by omega]
    simp only [Nat.add_assoc, List.set_cons_succ, Nat.reduceAdd]
theorem grown_trans {a b c : World} {x : Option Nat} (h : a.grownBy b x) (k : b.grownBy c x) : a.grownBy c x :=
  ⟨k.os.trans h.os, k.tape.trans h.tape, k.output.trans h.output, Nat.le_trans h.size k.size, fun i hi hx => (k.block i (Nat.lt_of_lt_of_le hi h.size) hx).trans (h.block i hi hx)⟩
/-- A node is stored at a place of the row. -/
theorem NRow.set {w : World} {base g cap n i : Nat} {L : List (Pat × Value)} (h : NRow w base (.slice (some ⟨g, 0, none⟩) n cap) L) (hn : L.length = n) (hi : i < L.length) {p : Pat} {ks : Value} (hp : Kids (mask w base (some g)) p.kids ks) :
    NRow ((((((((w.setCell ⟨g, i * 8, none⟩ (.int .i64 p.op)).setCell ⟨g, i * 8 + 1, none⟩ (.int .u64 (wd p.set 0))).setCell ⟨g, i * 8 + 2, none⟩ (.int .u64 (wd p.set 1))).setCell ⟨g, i * 8 + 3, none⟩ (.int .u64 (wd p.set 2))).setCell ⟨g, i * 8 + 4, none⟩ (.int .u64 (wd p.set 3))).setCell ⟨g, i * 8 + 5, none⟩ (.int .i64 p.lo)).setCell ⟨g, i * 8 + 6, none⟩ (.int .i64 p.hi)).setCell ⟨g, i * 8 + 7, none⟩ ks) base (.slice (some ⟨g, 0, none⟩) n cap) (L.set i (p, ks)) ∧ w.grownBy ((((((((w.setCell ⟨g, i * 8, none⟩ (.int .i64 p.op)).setCell ⟨g, i * 8 + 1, none⟩ (.int .u64 (wd p.set 0))).setCell ⟨g, i * 8 + 2, none⟩ (.int .u64 (wd p.set 1))).setCell ⟨g, i * 8 + 3, none⟩ (.int .u64 (wd p.set 2))).setCell ⟨g, i * 8 + 4, none⟩ (.int .u64 (wd p.set 3))).setCell ⟨g, i * 8 + 5, none⟩ (.int .i64 p.lo)).setCell ⟨g, i * 8 + 6, none⟩ (.int .i64 p.hi)).setCell ⟨g, i * 8 + 7, none⟩ ks) (some g) := by
  subst hn
  obtain ⟨a0, b0⟩ := h.1.stored (i * 8) (.int .i64 p.op)
  obtain ⟨a1, b1⟩ := a0.stored (i * 8 + 1) (.int .u64 (wd p.set 0))
  obtain ⟨a2, b2⟩ := a1.stored (i * 8 + 2) (.int .u64 (wd p.set 1))
  obtain ⟨a3, b3⟩ := a2.stored (i * 8 + 3) (.int .u64 (wd p.set 2))
  obtain ⟨a4, b4⟩ := a3.stored (i * 8 + 4) (.int .u64 (wd p.set 3))
  obtain ⟨a5, b5⟩ := a4.stored (i * 8 + 5) (.int .i64 p.lo)
  obtain ⟨a6, b6⟩ := a5.stored (i * 8 + 6) (.int .i64 p.hi)
  obtain ⟨a7, b7⟩ := a6.stored (i * 8 + 7) ks
  have hg : w.grownBy _ (some g) := (grown_trans (grown_trans (grown_trans (grown_trans (grown_trans (grown_trans (grown_trans b0 b1) b2) b3) b4) b5) b6) b7)
  rw [flatN_set L i hi p ks] at a7
  refine ⟨⟨by rw [List.length_set]; exact a7, fun x hx => ?_⟩, hg⟩
  rcases List.mem_or_eq_of_mem_set hx with hx | rfl
  · exact (h.2 x hx).masked hg (.inl rfl)
  · exact hp.masked hg (.inl rfl)
theorem NRow.block {w : World} {base : Nat} {v : Value} {L : List (Pat × Value)} (h : NRow w base v L) (hl : 0 < L.length) : ∃ g cap, v = .slice (some ⟨g, 0, none⟩) L.length cap ∧ base ≤ g ∧ g < w.heap.size ∧ L.length ≤ cap := by
  rcases h.1.2 with ⟨_, h0⟩ | ⟨g, cap, cur, rfl, hg, hgb, hc, _⟩
  · omega
  · exact ⟨g, cap, rfl, hg, (Array.getElem?_eq_some_iff.1 hgb).1, hc⟩
/-- The last one is cut off. -/
theorem NRow.pop {w : World} {base g cap n : Nat} {L : List (Pat × Value)} {x : Pat × Value} (h : NRow w base (.slice (some ⟨g, 0, none⟩) (n + 1) cap) (L ++ [x])) (hn : L.length = n) : NRow w base (.slice (some ⟨g, 0, none⟩) n cap) L := by
  subst hn
  have h1 := h.1
  rw [flatN_append, List.length_append] at h1
  exact ⟨ownsRow_pop (flatN_length L) h1, fun y hy => h.2 y (by simp [hy])⟩
/-- The eight cells at a place of the row. -/
theorem NRow.load {w : World} {base g cap n : Nat} {L : List (Pat × Value)} (h : NRow w base (.slice (some ⟨g, 0, none⟩) n cap) L) (hn : L.length = n) (i : Nat) (hi : i < L.length) :
    w.cell? ⟨g, i * 8, none⟩ = some (.int .i64 L[i].1.op) ∧ w.cell? ⟨g, i * 8 + 1, none⟩ = some (.int .u64 (wd L[i].1.set 0)) ∧ w.cell? ⟨g, i * 8 + 1 + 1, none⟩ = some (.int .u64 (wd L[i].1.set 1)) ∧ w.cell? ⟨g, i * 8 + 1 + 1 + 1, none⟩ = some (.int .u64 (wd L[i].1.set 2)) ∧ w.cell? ⟨g, i * 8 + 1 + 1 + 1 + 1, none⟩ = some (.int .u64 (wd L[i].1.set 3)) ∧ w.cell? ⟨g, i * 8 + 1 + 1 + 1 + 1 + 1, none⟩ = some (.int .i64 L[i].1.lo) ∧ w.cell? ⟨g, i * 8 + 1 + 1 + 1 + 1 + 1 + 1, none⟩ = some (.int .i64 L[i].1.hi) ∧ w.cell? ⟨g, i * 8 + 1 + 1 + 1 + 1 + 1 + 1 + 1, none⟩ = some L[i].2 := by
  subst hn
  have hc : ∀ j, j < 8 → w.cell? ⟨g, i * 8 + j, none⟩ = [.int .i64 (L[i].1).op, .int .u64 (wd (L[i].1).set 0), .int .u64 (wd (L[i].1).set 1), .int .u64 (wd (L[i].1).set 2), .int .u64 (wd (L[i].1).set 3), .int .i64 (L[i].1).lo, .int .i64 (L[i].1).hi, L[i].2][j]? := fun j hj => (h.1.cellAt (i * 8 + j) (by omega)).trans (flatN_at L i hi j hj)
  exact ⟨hc 0 (by omega), hc 1 (by omega), hc 2 (by omega), hc 3 (by omega), hc 4 (by omega), hc 5 (by omega), hc 6 (by omega), hc 7 (by omega)⟩
theorem NRow.free {w : World} {base g cap n : Nat} {L : List (Pat × Value)} (h : NRow w base (.slice (some ⟨g, 0, none⟩) n cap) L) (hn : L.length = n) (j : Nat) : w.frozen? ⟨g, j, none⟩ = false := by
  subst hn; exact h.1.frozenAt j
theorem Kids.oneM {w : World} {p : Pat} {ks : Value} {n lo : Nat} {x : Option Nat} (h : Kids (mask w lo x) p.kids ks) (hn : w.heap.size = n) (hl : lo ≤ n) (hx : some n ≠ x) : Kids (mask (w.alloc (.cells #[.int .i64 p.op, .int .u64 (wd p.set 0), .int .u64 (wd p.set 1), .int .u64 (wd p.set 2), .int .u64 (wd p.set 3), .int .i64 p.lo, .int .i64 p.hi, ks] 28)) lo x) [p] (.slice (some ⟨n, 0, none⟩) 1 1) := by
  subst hn
  refine .inr ⟨w.heap.size, 0, 1, rfl, ?_⟩
  unfold RowAt RowAt
  refine ⟨NodeAt.of (h.masked_below ((Below.refl _ _).alloc (Nat.le_refl _) _)) fun j hj => ?_, trivial⟩
  match j, hj with
  | 0, _ | 1, _ | 2, _ | 3, _ | 4, _ | 5, _ | 6, _ | 7, _ => exact (mask_cell _ _ _ _ _).2 ⟨⟨hl, hx⟩, by simp⟩
theorem Kids.twoM {w : World} {p q : Pat} {ks js : Value} {n lo : Nat} {x : Option Nat} (h : Kids (mask w lo x) p.kids ks) (h2 : Kids (mask w lo x) q.kids js) (hn : w.heap.size = n) (hl : lo ≤ n) (hx : some n ≠ x) : Kids (mask (w.alloc (.cells #[.int .i64 p.op, .int .u64 (wd p.set 0), .int .u64 (wd p.set 1), .int .u64 (wd p.set 2), .int .u64 (wd p.set 3), .int .i64 p.lo, .int .i64 p.hi, ks, .int .i64 q.op, .int .u64 (wd q.set 0), .int .u64 (wd q.set 1), .int .u64 (wd q.set 2), .int .u64 (wd q.set 3), .int .i64 q.lo, .int .i64 q.hi, js] 28)) lo x) [p, q] (.slice (some ⟨n, 0, none⟩) 2 2) := by
  subst hn
  refine .inr ⟨w.heap.size, 0, 2, rfl, ?_⟩
  unfold RowAt RowAt RowAt
  refine ⟨NodeAt.of (h.masked_below ((Below.refl _ _).alloc (Nat.le_refl _) _)) fun j hj => ?_, NodeAt.of (h2.masked_below ((Below.refl _ _).alloc (Nat.le_refl _) _)) fun j hj => ?_, trivial⟩
  · match j, hj with
    | 0, _ | 1, _ | 2, _ | 3, _ | 4, _ | 5, _ | 6, _ | 7, _ => exact (mask_cell _ _ _ _ _).2 ⟨⟨hl, hx⟩, by simp⟩
  · match j, hj with
    | 0, _ | 1, _ | 2, _ | 3, _ | 4, _ | 5, _ | 6, _ | 7, _ => exact (mask_cell _ _ _ _ _).2 ⟨⟨hl, hx⟩, by simp⟩
/-- What a statement 'x := Many(op, []Node{l[n-2], l[n-1]})' leaves, in whatever order. -/
def Aft (w W : World) (base g b : Nat) (P : Pat) (ks : Value) : Prop := Below w.heap.size w W ∧ Box W b #[.int .i64 P.op, .int .u64 (wd P.set 0), .int .u64 (wd P.set 1), .int .u64 (wd P.set 2), .int .u64 (wd P.set 3), .int .i64 P.lo, .int .i64 P.hi, ks] ∧ Kids (mask W base (some g)) P.kids ks
theorem below_step {w a b : World} (h : Below w.heap.size w a) (hb : Below a.heap.size a b) : Below w.heap.size w b := h.trans (hb.mono h.size)
theorem Kids.drewM {w : World} {lo : Nat} {x : Option Nat} {l : List Pat} {ks : Value} (h : Kids (mask w lo x) l ks) : Kids (mask w.drew lo x) l ks := h.masked_below (Below.refl _ _).drew
theorem aft1 {w w5 : World} {base g n : Nat} {op : Int} {x y : Pat} {xs ys : Value} (hx : Kids (mask w base (some g)) x.kids xs) (hy : Kids (mask w base (some g)) y.kids ys) (hg : g < w.heap.size) (hb : base ≤ w.heap.size)
    (h5 : Below (w.drew.alloc (.cells #[.int .i64 x.op, .int .u64 (wd x.set 0), .int .u64 (wd x.set 1), .int .u64 (wd x.set 2), .int .u64 (wd x.set 3), .int .i64 x.lo, .int .i64 x.hi, xs, .int .i64 y.op, .int .u64 (wd y.set 0), .int .u64 (wd y.set 1), .int .u64 (wd y.set 2), .int .u64 (wd y.set 3), .int .i64 y.lo, .int .i64 y.hi, ys] 28)).heap.size (w.drew.alloc (.cells #[.int .i64 x.op, .int .u64 (wd x.set 0), .int .u64 (wd x.set 1), .int .u64 (wd x.set 2), .int .u64 (wd x.set 3), .int .i64 x.lo, .int .i64 x.hi, xs, .int .i64 y.op, .int .u64 (wd y.set 0), .int .u64 (wd y.set 1), .int .u64 (wd y.set 2), .int .u64 (wd y.set 3), .int .i64 y.lo, .int .i64 y.hi, ys] 28)) w5) (hn : w.heap.size = n) :
    Aft w (w5.alloc (.cells #[.int .i64 (Pat.mk op 0 0 0 [x, y]).op, .int .u64 (wd (Pat.mk op 0 0 0 [x, y]).set 0), .int .u64 (wd (Pat.mk op 0 0 0 [x, y]).set 1), .int .u64 (wd (Pat.mk op 0 0 0 [x, y]).set 2), .int .u64 (wd (Pat.mk op 0 0 0 [x, y]).set 3), .int .i64 (Pat.mk op 0 0 0 [x, y]).lo, .int .i64 (Pat.mk op 0 0 0 [x, y]).hi, .slice (some ⟨n, 0, none⟩) 2 2] 28)) base g w5.heap.size (Pat.mk op 0 0 0 [x, y]) (.slice (some ⟨n, 0, none⟩) 2 2) := by
  have hk := Kids.twoM hx.drewM hy.drewM hn (by omega) (fun e => by cases e; omega)
  have hb1 : Below w.heap.size w (w.drew.alloc (.cells #[.int .i64 x.op, .int .u64 (wd x.set 0), .int .u64 (wd x.set 1), .int .u64 (wd x.set 2), .int .u64 (wd x.set 3), .int .i64 x.lo, .int .i64 x.hi, xs, .int .i64 y.op, .int .u64 (wd y.set 0), .int .u64 (wd y.set 1), .int .u64 (wd y.set 2), .int .u64 (wd y.set 3), .int .i64 y.lo, .int .i64 y.hi, ys] 28)) := ((Below.refl _ _).drew).alloc (Nat.le_refl _) _
  exact ⟨below_step (below_step hb1 h5) ((Below.refl _ _).alloc (Nat.le_refl _) _), Box.new _ _ rfl, (hk.masked_below h5).masked_below ((Below.refl _ _).alloc (Nat.le_refl _) _)⟩
/-- In the second order the variable's block lies behind the slice's, in the third ahead of it: their kids avoid it. -/
theorem aft2 {w w5 : World} {base g n b : Nat} {op : Int} {x y : Pat} {xs ys : Value} (hx : Kids (mask w base (some g)) x.kids xs) (hy : Kids (mask w base (some g)) y.kids ys) (hg : g < w.heap.size) (hb : base ≤ w.heap.size)
    (h5 : Below ((w.drew.alloc (.cells #[.int .i64 x.op, .int .u64 (wd x.set 0), .int .u64 (wd x.set 1), .int .u64 (wd x.set 2), .int .u64 (wd x.set 3), .int .i64 x.lo, .int .i64 x.hi, xs, .int .i64 y.op, .int .u64 (wd y.set 0), .int .u64 (wd y.set 1), .int .u64 (wd y.set 2), .int .u64 (wd y.set 3), .int .i64 y.lo, .int .i64 y.hi, ys] 28)).alloc (.cells #[.int .i64 0, .int .u64 0, .int .u64 0, .int .u64 0, .int .u64 0, .int .i64 0, .int .i64 0, .slice none 0 0] 28)).heap.size ((w.drew.alloc (.cells #[.int .i64 x.op, .int .u64 (wd x.set 0), .int .u64 (wd x.set 1), .int .u64 (wd x.set 2), .int .u64 (wd x.set 3), .int .i64 x.lo, .int .i64 x.hi, xs, .int .i64 y.op, .int .u64 (wd y.set 0), .int .u64 (wd y.set 1), .int .u64 (wd y.set 2), .int .u64 (wd y.set 3), .int .i64 y.lo, .int .i64 y.hi, ys] 28)).alloc (.cells #[.int .i64 0, .int .u64 0, .int .u64 0, .int .u64 0, .int .u64 0, .int .i64 0, .int .i64 0, .slice none 0 0] 28)) w5) (hn : w.heap.size = n) (hbn : b = n + 1) :
    Aft w ((((((((w5.setCell ⟨b, 0, none⟩ (.int .i64 (Pat.mk op 0 0 0 [x, y]).op)).setCell ⟨b, 1, none⟩ (.int .u64 (wd (Pat.mk op 0 0 0 [x, y]).set 0))).setCell ⟨b, 2, none⟩ (.int .u64 (wd (Pat.mk op 0 0 0 [x, y]).set 1))).setCell ⟨b, 3, none⟩ (.int .u64 (wd (Pat.mk op 0 0 0 [x, y]).set 2))).setCell ⟨b, 4, none⟩ (.int .u64 (wd (Pat.mk op 0 0 0 [x, y]).set 3))).setCell ⟨b, 5, none⟩ (.int .i64 (Pat.mk op 0 0 0 [x, y]).lo)).setCell ⟨b, 6, none⟩ (.int .i64 (Pat.mk op 0 0 0 [x, y]).hi)).setCell ⟨b, 7, none⟩ (.slice (some ⟨n, 0, none⟩) 2 2)) base g b (Pat.mk op 0 0 0 [x, y]) (.slice (some ⟨n, 0, none⟩) 2 2) := by
  subst hbn
  have hk := Kids.twoM hx.drewM hy.drewM hn (by omega) (fun e => by cases e; omega)
  have hb1 : Below w.heap.size w (w.drew.alloc (.cells #[.int .i64 x.op, .int .u64 (wd x.set 0), .int .u64 (wd x.set 1), .int .u64 (wd x.set 2), .int .u64 (wd x.set 3), .int .i64 x.lo, .int .i64 x.hi, xs, .int .i64 y.op, .int .u64 (wd y.set 0), .int .u64 (wd y.set 1), .int .u64 (wd y.set 2), .int .u64 (wd y.set 3), .int .i64 y.lo, .int .i64 y.hi, ys] 28)) := ((Below.refl _ _).drew).alloc (Nat.le_refl _) _
  have hb2 := below_step hb1 ((Below.refl _ _).alloc (Nat.le_refl _) (.cells #[.int .i64 0, .int .u64 0, .int .u64 0, .int .u64 0, .int .u64 0, .int .i64 0, .int .i64 0, .slice none 0 0] 28))
  have hs1 : (w.drew.alloc (.cells #[.int .i64 x.op, .int .u64 (wd x.set 0), .int .u64 (wd x.set 1), .int .u64 (wd x.set 2), .int .u64 (wd x.set 3), .int .i64 x.lo, .int .i64 x.hi, xs, .int .i64 y.op, .int .u64 (wd y.set 0), .int .u64 (wd y.set 1), .int .u64 (wd y.set 2), .int .u64 (wd y.set 3), .int .i64 y.lo, .int .i64 y.hi, ys] 28)).heap.size = n + 1 := by rw [World.size_alloc]; show w.heap.size + 1 = n + 1; omega
  refine ⟨below_set8 (below_step hb2 h5) (by omega) _ _ _ _ _ _ _ _, ((Box.new _ _ hs1).below h5).store _ _ _ _ _ _ _ _, ?_⟩
  refine hk.keep fun c h1 h2 h3 => ⟨?_, h1, h2⟩
  rw [heap_set8 (by omega)]
  exact (h5.block c (by simp; omega)).trans (Below.heap_alloc _ _ _ h3)
theorem aft3 {w w5 : World} {base g n b : Nat} {op : Int} {x y : Pat} {xs ys : Value} (hx : Kids (mask w base (some g)) x.kids xs) (hy : Kids (mask w base (some g)) y.kids ys) (hg : g < w.heap.size) (hb : base ≤ w.heap.size)
    (h5 : Below ((w.drew.alloc (.cells #[.int .i64 0, .int .u64 0, .int .u64 0, .int .u64 0, .int .u64 0, .int .i64 0, .int .i64 0, .slice none 0 0] 28)).alloc (.cells #[.int .i64 x.op, .int .u64 (wd x.set 0), .int .u64 (wd x.set 1), .int .u64 (wd x.set 2), .int .u64 (wd x.set 3), .int .i64 x.lo, .int .i64 x.hi, xs, .int .i64 y.op, .int .u64 (wd y.set 0), .int .u64 (wd y.set 1), .int .u64 (wd y.set 2), .int .u64 (wd y.set 3), .int .i64 y.lo, .int .i64 y.hi, ys] 28)).heap.size ((w.drew.alloc (.cells #[.int .i64 0, .int .u64 0, .int .u64 0, .int .u64 0, .int .u64 0, .int .i64 0, .int .i64 0, .slice none 0 0] 28)).alloc (.cells #[.int .i64 x.op, .int .u64 (wd x.set 0), .int .u64 (wd x.set 1), .int .u64 (wd x.set 2), .int .u64 (wd x.set 3), .int .i64 x.lo, .int .i64 x.hi, xs, .int .i64 y.op, .int .u64 (wd y.set 0), .int .u64 (wd y.set 1), .int .u64 (wd y.set 2), .int .u64 (wd y.set 3), .int .i64 y.lo, .int .i64 y.hi, ys] 28)) w5) (hn : w.heap.size + 1 = n) (hbn : b = w.heap.size) :
    Aft w ((((((((w5.setCell ⟨b, 0, none⟩ (.int .i64 (Pat.mk op 0 0 0 [x, y]).op)).setCell ⟨b, 1, none⟩ (.int .u64 (wd (Pat.mk op 0 0 0 [x, y]).set 0))).setCell ⟨b, 2, none⟩ (.int .u64 (wd (Pat.mk op 0 0 0 [x, y]).set 1))).setCell ⟨b, 3, none⟩ (.int .u64 (wd (Pat.mk op 0 0 0 [x, y]).set 2))).setCell ⟨b, 4, none⟩ (.int .u64 (wd (Pat.mk op 0 0 0 [x, y]).set 3))).setCell ⟨b, 5, none⟩ (.int .i64 (Pat.mk op 0 0 0 [x, y]).lo)).setCell ⟨b, 6, none⟩ (.int .i64 (Pat.mk op 0 0 0 [x, y]).hi)).setCell ⟨b, 7, none⟩ (.slice (some ⟨n, 0, none⟩) 2 2)) base g b (Pat.mk op 0 0 0 [x, y]) (.slice (some ⟨n, 0, none⟩) 2 2) := by
  subst hbn
  have hal : Below w.drew.heap.size w.drew (w.drew.alloc (.cells #[.int .i64 0, .int .u64 0, .int .u64 0, .int .u64 0, .int .u64 0, .int .i64 0, .int .i64 0, .slice none 0 0] 28)) := (Below.refl _ _).alloc (Nat.le_refl _) _
  have hs1 : (w.drew.alloc (.cells #[.int .i64 0, .int .u64 0, .int .u64 0, .int .u64 0, .int .u64 0, .int .i64 0, .int .i64 0, .slice none 0 0] 28)).heap.size = n := by rw [World.size_alloc]; exact hn
  have hb1 : Below w.heap.size w (w.drew.alloc (.cells #[.int .i64 0, .int .u64 0, .int .u64 0, .int .u64 0, .int .u64 0, .int .i64 0, .int .i64 0, .slice none 0 0] 28)) := ((Below.refl _ _).drew).alloc (Nat.le_refl _) _
  have hb2 := below_step hb1 ((Below.refl _ _).alloc (Nat.le_refl _) (.cells #[.int .i64 x.op, .int .u64 (wd x.set 0), .int .u64 (wd x.set 1), .int .u64 (wd x.set 2), .int .u64 (wd x.set 3), .int .i64 x.lo, .int .i64 x.hi, xs, .int .i64 y.op, .int .u64 (wd y.set 0), .int .u64 (wd y.set 1), .int .u64 (wd y.set 2), .int .u64 (wd y.set 3), .int .i64 y.lo, .int .i64 y.hi, ys] 28))
  refine ⟨below_set8 (below_step hb2 h5) (by omega) _ _ _ _ _ _ _ _, (((Box.new w.drew _ rfl).alloc _).below h5).store _ _ _ _ _ _ _ _, ?_⟩
  -- the kids of both lie below w's end, the slice's block is n
  have hlow : ∀ {p : Pat} {q : Value}, Kids (mask w base (some g)) p.kids q → Kids (mask ((((((((w5.setCell ⟨w.heap.size, 0, none⟩ (.int .i64 (Pat.mk op 0 0 0 [x, y]).op)).setCell ⟨w.heap.size, 1, none⟩ (.int .u64 (wd (Pat.mk op 0 0 0 [x, y]).set 0))).setCell ⟨w.heap.size, 2, none⟩ (.int .u64 (wd (Pat.mk op 0 0 0 [x, y]).set 1))).setCell ⟨w.heap.size, 3, none⟩ (.int .u64 (wd (Pat.mk op 0 0 0 [x, y]).set 2))).setCell ⟨w.heap.size, 4, none⟩ (.int .u64 (wd (Pat.mk op 0 0 0 [x, y]).set 3))).setCell ⟨w.heap.size, 5, none⟩ (.int .i64 (Pat.mk op 0 0 0 [x, y]).lo)).setCell ⟨w.heap.size, 6, none⟩ (.int .i64 (Pat.mk op 0 0 0 [x, y]).hi)).setCell ⟨w.heap.size, 7, none⟩ (.slice (some ⟨n, 0, none⟩) 2 2)) base (some g)) p.kids q := fun h => h.keep fun c h1 h2 h3 => ⟨by
    rw [heap_set8 (by omega)]
    exact (h5.block c (by first | (rw [World.size_alloc, World.size_alloc]; show c < w.heap.size + 1 + 1; omega) | (rw [World.size_alloc]; show c < w.heap.size + 1; omega))).trans ((Below.heap_alloc _ _ _ (by first | (rw [World.size_alloc, World.size_alloc]; show c < w.heap.size + 1 + 1; omega) | (rw [World.size_alloc]; show c < w.heap.size + 1; omega))).trans (Below.heap_alloc _ _ _ h3)), h1, h2⟩
  have hcell : Box w5 n #[.int .i64 x.op, .int .u64 (wd x.set 0), .int .u64 (wd x.set 1), .int .u64 (wd x.set 2), .int .u64 (wd x.set 3), .int .i64 x.lo, .int .i64 x.hi, xs, .int .i64 y.op, .int .u64 (wd y.set 0), .int .u64 (wd y.set 1), .int .u64 (wd y.set 2), .int .u64 (wd y.set 3), .int .i64 y.lo, .int .i64 y.hi, ys] := (Box.new (w.drew.alloc (.cells #[.int .i64 0, .int .u64 0, .int .u64 0, .int .u64 0, .int .u64 0, .int .i64 0, .int .i64 0, .slice none 0 0] 28)) _ hs1).below h5
  have hcell2 := hcell.other8 (b := w.heap.size) (by omega) (.int .i64 (Pat.mk op 0 0 0 [x, y]).op) (.int .u64 (wd (Pat.mk op 0 0 0 [x, y]).set 0)) (.int .u64 (wd (Pat.mk op 0 0 0 [x, y]).set 1)) (.int .u64 (wd (Pat.mk op 0 0 0 [x, y]).set 2)) (.int .u64 (wd (Pat.mk op 0 0 0 [x, y]).set 3)) (.int .i64 (Pat.mk op 0 0 0 [x, y]).lo) (.int .i64 (Pat.mk op 0 0 0 [x, y]).hi) (.slice (some ⟨n, 0, none⟩) 2 2)
  have hng : some n ≠ some g := fun e => by have := Option.some.inj e; omega
  refine .inr ⟨n, 0, 2, rfl, ?_⟩
  show RowAt _ [x, y] n 0
  unfold RowAt RowAt RowAt
  refine ⟨NodeAt.of (hlow hx) fun j hj => ?_, NodeAt.of (hlow hy) fun j hj => ?_, trivial⟩
  · match j, hj with
    | 0, _ | 1, _ | 2, _ | 3, _ | 4, _ | 5, _ | 6, _ | 7, _ => exact (mask_cell _ _ _ _ _).2 ⟨⟨by show base ≤ n; omega, hng⟩, hcell2.cell _⟩
  · match j, hj with
    | 0, _ | 1, _ | 2, _ | 3, _ | 4, _ | 5, _ | 6, _ | 7, _ => exact (mask_cell _ _ _ _ _).2 ⟨⟨by show base ≤ n; omega, hng⟩, hcell2.cell _⟩
theorem use {P Q : Prop} (h : P) (k : P → Q) : Q := k h
theorem aft1h {w w5 : World} {base g : Nat} {x y : Pat} {xs ys : Value} (op : Int) (hx : Kids (mask w base (some g)) x.kids xs) (hy : Kids (mask w base (some g)) y.kids ys) (hg : g < w.heap.size) (hb : base ≤ w.heap.size) (h5 : Below (w.alloc (.cells #[.int .i64 x.op, .int .u64 (wd x.set 0), .int .u64 (wd x.set 1), .int .u64 (wd x.set 2), .int .u64 (wd x.set 3), .int .i64 x.lo, .int .i64 x.hi, xs, .int .i64 y.op, .int .u64 (wd y.set 0), .int .u64 (wd y.set 1), .int .u64 (wd y.set 2), .int .u64 (wd y.set 3), .int .i64 y.lo, .int .i64 y.hi, ys] 28)).drew.heap.size (w.alloc (.cells #[.int .i64 x.op, .int .u64 (wd x.set 0), .int .u64 (wd x.set 1), .int .u64 (wd x.set 2), .int .u64 (wd x.set 3), .int .i64 x.lo, .int .i64 x.hi, xs, .int .i64 y.op, .int .u64 (wd y.set 0), .int .u64 (wd y.set 1), .int .u64 (wd y.set 2), .int .u64 (wd y.set 3), .int .i64 y.lo, .int .i64 y.hi, ys] 28)).drew w5) :
    Aft w (w5.alloc (.cells #[.int .i64 (Pat.mk op 0 0 0 [x, y]).op, .int .u64 (wd (Pat.mk op 0 0 0 [x, y]).set 0), .int .u64 (wd (Pat.mk op 0 0 0 [x, y]).set 1), .int .u64 (wd (Pat.mk op 0 0 0 [x, y]).set 2), .int .u64 (wd (Pat.mk op 0 0 0 [x, y]).set 3), .int .i64 (Pat.mk op 0 0 0 [x, y]).lo, .int .i64 (Pat.mk op 0 0 0 [x, y]).hi, .slice (some ⟨w.heap.size, 0, none⟩) 2 2] 28)) base g w5.heap.size (Pat.mk op 0 0 0 [x, y]) (.slice (some ⟨w.heap.size, 0, none⟩) 2 2) := by
  have h6 : Below (w.drew.alloc (.cells #[.int .i64 x.op, .int .u64 (wd x.set 0), .int .u64 (wd x.set 1), .int .u64 (wd x.set 2), .int .u64 (wd x.set 3), .int .i64 x.lo, .int .i64 x.hi, xs, .int .i64 y.op, .int .u64 (wd y.set 0), .int .u64 (wd y.set 1), .int .u64 (wd y.set 2), .int .u64 (wd y.set 3), .int .i64 y.lo, .int .i64 y.hi, ys] 28)).heap.size (w.drew.alloc (.cells #[.int .i64 x.op, .int .u64 (wd x.set 0), .int .u64 (wd x.set 1), .int .u64 (wd x.set 2), .int .u64 (wd x.set 3), .int .i64 x.lo, .int .i64 x.hi, xs, .int .i64 y.op, .int .u64 (wd y.set 0), .int .u64 (wd y.set 1), .int .u64 (wd y.set 2), .int .u64 (wd y.set 3), .int .i64 y.lo, .int .i64 y.hi, ys] 28)) w5 := h5
  exact aft1 hx hy hg hb h6 rfl
theorem aft2h {w w5 : World} {base g : Nat} {x y : Pat} {xs ys : Value} (op : Int) (hx : Kids (mask w base (some g)) x.kids xs) (hy : Kids (mask w base (some g)) y.kids ys) (hg : g < w.heap.size) (hb : base ≤ w.heap.size) (h5 : Below ((w.alloc (.cells #[.int .i64 x.op, .int .u64 (wd x.set 0), .int .u64 (wd x.set 1), .int .u64 (wd x.set 2), .int .u64 (wd x.set 3), .int .i64 x.lo, .int .i64 x.hi, xs, .int .i64 y.op, .int .u64 (wd y.set 0), .int .u64 (wd y.set 1), .int .u64 (wd y.set 2), .int .u64 (wd y.set 3), .int .i64 y.lo, .int .i64 y.hi, ys] 28)).alloc (.cells #[.int .i64 0, .int .u64 0, .int .u64 0, .int .u64 0, .int .u64 0, .int .i64 0, .int .i64 0, .slice none 0 0] 28)).drew.heap.size ((w.alloc (.cells #[.int .i64 x.op, .int .u64 (wd x.set 0), .int .u64 (wd x.set 1), .int .u64 (wd x.set 2), .int .u64 (wd x.set 3), .int .i64 x.lo, .int .i64 x.hi, xs, .int .i64 y.op, .int .u64 (wd y.set 0), .int .u64 (wd y.set 1), .int .u64 (wd y.set 2), .int .u64 (wd y.set 3), .int .i64 y.lo, .int .i64 y.hi, ys] 28)).alloc (.cells #[.int .i64 0, .int .u64 0, .int .u64 0, .int .u64 0, .int .u64 0, .int .i64 0, .int .i64 0, .slice none 0 0] 28)).drew w5) :
    Aft w ((((((((w5.setCell ⟨w.heap.size + 1, 0, none⟩ (.int .i64 (Pat.mk op 0 0 0 [x, y]).op)).setCell ⟨w.heap.size + 1, 1, none⟩ (.int .u64 (wd (Pat.mk op 0 0 0 [x, y]).set 0))).setCell ⟨w.heap.size + 1, 2, none⟩ (.int .u64 (wd (Pat.mk op 0 0 0 [x, y]).set 1))).setCell ⟨w.heap.size + 1, 3, none⟩ (.int .u64 (wd (Pat.mk op 0 0 0 [x, y]).set 2))).setCell ⟨w.heap.size + 1, 4, none⟩ (.int .u64 (wd (Pat.mk op 0 0 0 [x, y]).set 3))).setCell ⟨w.heap.size + 1, 5, none⟩ (.int .i64 (Pat.mk op 0 0 0 [x, y]).lo)).setCell ⟨w.heap.size + 1, 6, none⟩ (.int .i64 (Pat.mk op 0 0 0 [x, y]).hi)).setCell ⟨w.heap.size + 1, 7, none⟩ (.slice (some ⟨w.heap.size, 0, none⟩) 2 2)) base g (w.heap.size + 1) (Pat.mk op 0 0 0 [x, y]) (.slice (some ⟨w.heap.size, 0, none⟩) 2 2) ∧ Box w5 (w.heap.size + 1) #[.int .i64 0, .int .u64 0, .int .u64 0, .int .u64 0, .int .u64 0, .int .i64 0, .int .i64 0, .slice none 0 0] := by
  have h6 : Below ((w.drew.alloc (.cells #[.int .i64 x.op, .int .u64 (wd x.set 0), .int .u64 (wd x.set 1), .int .u64 (wd x.set 2), .int .u64 (wd x.set 3), .int .i64 x.lo, .int .i64 x.hi, xs, .int .i64 y.op, .int .u64 (wd y.set 0), .int .u64 (wd y.set 1), .int .u64 (wd y.set 2), .int .u64 (wd y.set 3), .int .i64 y.lo, .int .i64 y.hi, ys] 28)).alloc (.cells #[.int .i64 0, .int .u64 0, .int .u64 0, .int .u64 0, .int .u64 0, .int .i64 0, .int .i64 0, .slice none 0 0] 28)).heap.size ((w.drew.alloc (.cells #[.int .i64 x.op, .int .u64 (wd x.set 0), .int .u64 (wd x.set 1), .int .u64 (wd x.set 2), .int .u64 (wd x.set 3), .int .i64 x.lo, .int .i64 x.hi, xs, .int .i64 y.op, .int .u64 (wd y.set 0), .int .u64 (wd y.set 1), .int .u64 (wd y.set 2), .int .u64 (wd y.set 3), .int .i64 y.lo, .int .i64 y.hi, ys] 28)).alloc (.cells #[.int .i64 0, .int .u64 0, .int .u64 0, .int .u64 0, .int .u64 0, .int .i64 0, .int .i64 0, .slice none 0 0] 28)) w5 := h5
  exact ⟨aft2 hx hy hg hb h6 rfl rfl, (Box.new (w.drew.alloc (.cells #[.int .i64 x.op, .int .u64 (wd x.set 0), .int .u64 (wd x.set 1), .int .u64 (wd x.set 2), .int .u64 (wd x.set 3), .int .i64 x.lo, .int .i64 x.hi, xs, .int .i64 y.op, .int .u64 (wd y.set 0), .int .u64 (wd y.set 1), .int .u64 (wd y.set 2), .int .u64 (wd y.set 3), .int .i64 y.lo, .int .i64 y.hi, ys] 28)) _ (World.size_alloc _ _)).below h6⟩
theorem aft3h {w w5 : World} {base g : Nat} {x y : Pat} {xs ys : Value} (op : Int) (hx : Kids (mask w base (some g)) x.kids xs) (hy : Kids (mask w base (some g)) y.kids ys) (hg : g < w.heap.size) (hb : base ≤ w.heap.size) (h5 : Below ((w.alloc (.cells #[.int .i64 0, .int .u64 0, .int .u64 0, .int .u64 0, .int .u64 0, .int .i64 0, .int .i64 0, .slice none 0 0] 28)).alloc (.cells #[.int .i64 x.op, .int .u64 (wd x.set 0), .int .u64 (wd x.set 1), .int .u64 (wd x.set 2), .int .u64 (wd x.set 3), .int .i64 x.lo, .int .i64 x.hi, xs, .int .i64 y.op, .int .u64 (wd y.set 0), .int .u64 (wd y.set 1), .int .u64 (wd y.set 2), .int .u64 (wd y.set 3), .int .i64 y.lo, .int .i64 y.hi, ys] 28)).drew.heap.size ((w.alloc (.cells #[.int .i64 0, .int .u64 0, .int .u64 0, .int .u64 0, .int .u64 0, .int .i64 0, .int .i64 0, .slice none 0 0] 28)).alloc (.cells #[.int .i64 x.op, .int .u64 (wd x.set 0), .int .u64 (wd x.set 1), .int .u64 (wd x.set 2), .int .u64 (wd x.set 3), .int .i64 x.lo, .int .i64 x.hi, xs, .int .i64 y.op, .int .u64 (wd y.set 0), .int .u64 (wd y.set 1), .int .u64 (wd y.set 2), .int .u64 (wd y.set 3), .int .i64 y.lo, .int .i64 y.hi, ys] 28)).drew w5) :
    Aft w ((((((((w5.setCell ⟨w.heap.size, 0, none⟩ (.int .i64 (Pat.mk op 0 0 0 [x, y]).op)).setCell ⟨w.heap.size, 1, none⟩ (.int .u64 (wd (Pat.mk op 0 0 0 [x, y]).set 0))).setCell ⟨w.heap.size, 2, none⟩ (.int .u64 (wd (Pat.mk op 0 0 0 [x, y]).set 1))).setCell ⟨w.heap.size, 3, none⟩ (.int .u64 (wd (Pat.mk op 0 0 0 [x, y]).set 2))).setCell ⟨w.heap.size, 4, none⟩ (.int .u64 (wd (Pat.mk op 0 0 0 [x, y]).set 3))).setCell ⟨w.heap.size, 5, none⟩ (.int .i64 (Pat.mk op 0 0 0 [x, y]).lo)).setCell ⟨w.heap.size, 6, none⟩ (.int .i64 (Pat.mk op 0 0 0 [x, y]).hi)).setCell ⟨w.heap.size, 7, none⟩ (.slice (some ⟨w.heap.size + 1, 0, none⟩) 2 2)) base g w.heap.size (Pat.mk op 0 0 0 [x, y]) (.slice (some ⟨w.heap.size + 1, 0, none⟩) 2 2) ∧ Box w5 w.heap.size #[.int .i64 0, .int .u64 0, .int .u64 0, .int .u64 0, .int .u64 0, .int .i64 0, .int .i64 0, .slice none 0 0] := by
  have h6 : Below ((w.drew.alloc (.cells #[.int .i64 0, .int .u64 0, .int .u64 0, .int .u64 0, .int .u64 0, .int .i64 0, .int .i64 0, .slice none 0 0] 28)).alloc (.cells #[.int .i64 x.op, .int .u64 (wd x.set 0), .int .u64 (wd x.set 1), .int .u64 (wd x.set 2), .int .u64 (wd x.set 3), .int .i64 x.lo, .int .i64 x.hi, xs, .int .i64 y.op, .int .u64 (wd y.set 0), .int .u64 (wd y.set 1), .int .u64 (wd y.set 2), .int .u64 (wd y.set 3), .int .i64 y.lo, .int .i64 y.hi, ys] 28)).heap.size ((w.drew.alloc (.cells #[.int .i64 0, .int .u64 0, .int .u64 0, .int .u64 0, .int .u64 0, .int .i64 0, .int .i64 0, .slice none 0 0] 28)).alloc (.cells #[.int .i64 x.op, .int .u64 (wd x.set 0), .int .u64 (wd x.set 1), .int .u64 (wd x.set 2), .int .u64 (wd x.set 3), .int .i64 x.lo, .int .i64 x.hi, xs, .int .i64 y.op, .int .u64 (wd y.set 0), .int .u64 (wd y.set 1), .int .u64 (wd y.set 2), .int .u64 (wd y.set 3), .int .i64 y.lo, .int .i64 y.hi, ys] 28)) w5 := h5
  exact ⟨aft3 hx hy hg hb h6 rfl rfl, ((Box.new w.drew _ rfl).alloc _).below h6⟩
end Go.Proofs.YtooaamepflkgnaaDoor
set_option maxRecDepth 20000
namespace Go.Proofs.YtooaamepflkgnaaDoor
open Go.RowKit

theorem union_two (x y : BitVec 256) : unionL [x, y] = x ||| y := by simp [unionL]
theorem sl_two (w : World) (x y : BitVec 256) : Sl (w.alloc (.cells #[.int .u64 (wd x 0), .int .u64 (wd x 1), .int .u64 (wd x 2), .int .u64 (wd x 3), .int .u64 (wd y 0), .int .u64 (wd y 1), .int .u64 (wd y 2), .int .u64 (wd y 3)] 25)) (.slice (some ⟨w.heap.size, 0, none⟩) 2 2) [x, y] := by
  refine ⟨by simp [maxLen], .inr ⟨_, 0, 2, rfl, by simp, ?_⟩⟩
  intro i hi j hj
  match i, hi with
  | 0, _ => match j, hj with
    | 0, _ => simp
    | 1, _ => simp
    | 2, _ => simp
    | 3, _ => simp
  | 1, _ => match j, hj with
    | 0, _ => simp
    | 1, _ => simp
    | 2, _ => simp
    | 3, _ => simp
end Go.Proofs.YtooaamepflkgnaaDoor
