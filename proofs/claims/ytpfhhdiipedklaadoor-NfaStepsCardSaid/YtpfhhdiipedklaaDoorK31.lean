/- Texts that a proof rests on: Sets of places, as runs, rising. -/
import Derived.Test.YtpfhhdiipedklaaDoorK15
set_option maxRecDepth 20000
namespace Go.Proofs.YtpfhhdiipedklaaDoor
open Go.RowKit

/-- What runs have. -/
def mem (L : List (Int × Int)) (x : Int) : Prop := ∃ r ∈ L, r.1 ≤ x ∧ x ≤ r.2
/-- Each has something; between two something lies. -/
def Nrm (L : List (Int × Int)) : Prop := (∀ r ∈ L, r.1 ≤ r.2) ∧ L.Pairwise (fun a b => a.2 + 1 < b.1)
theorem mem_nil (x : Int) : mem [] x ↔ False := by simp [mem]
theorem mem_cons (r : Int × Int) (L : List (Int × Int)) (x : Int) : mem (r :: L) x ↔ (r.1 ≤ x ∧ x ≤ r.2) ∨ mem L x := by simp [mem]
theorem mem_append (A B : List (Int × Int)) (x : Int) : mem (A ++ B) x ↔ mem A x ∨ mem B x := by
  simp only [mem, List.mem_append, or_and_right, exists_or]
theorem Nrm.nil : Nrm [] := ⟨by simp, List.Pairwise.nil⟩
theorem Nrm.one {lo hi : Int} (h : lo ≤ hi) : Nrm [(lo, hi)] := ⟨by simp [h], by simp⟩
theorem Nrm.cons {r : Int × Int} {L : List (Int × Int)} : Nrm (r :: L) ↔ r.1 ≤ r.2 ∧ (∀ q ∈ L, r.2 + 1 < q.1) ∧ Nrm L := by
  unfold Nrm
  simp only [List.mem_cons, forall_eq_or_imp, List.pairwise_cons]
  exact ⟨fun ⟨⟨a, b⟩, c, d⟩ => ⟨a, c, b, d⟩, fun ⟨a, c, b, d⟩ => ⟨⟨a, b⟩, c, d⟩⟩
theorem Nrm.append {A B : List (Int × Int)} : Nrm (A ++ B) ↔ Nrm A ∧ Nrm B ∧ ∀ a ∈ A, ∀ b ∈ B, a.2 + 1 < b.1 := by
  unfold Nrm
  rw [List.pairwise_append]
  simp only [List.mem_append, or_imp, forall_and]
  exact ⟨fun ⟨⟨a, b⟩, c, d, e⟩ => ⟨⟨a, c⟩, ⟨b, d⟩, e⟩, fun ⟨⟨a, c⟩, ⟨b, d⟩, e⟩ => ⟨⟨a, b⟩, c, d, e⟩⟩
theorem Nrm.drop {L : List (Int × Int)} (h : Nrm L) (k : Nat) : Nrm (L.drop k) := by
  have := List.take_append_drop k L
  rw [← this, Nrm.append] at h
  exact h.2.1
/-- How many runs at the front end below n. -/
def below (n : Int) : List (Int × Int) → Nat
  | [] => 0
  | r :: L => if r.2 < n then below n L + 1 else 0
theorem below_le (n : Int) (L : List (Int × Int)) : below n L ≤ L.length := by
  induction L with
  | nil => simp [below]
  | cons r L ih => unfold below; split <;> simp; omega
theorem below_lt (n : Int) : ∀ (L : List (Int × Int)) (i : Nat) (h : i < L.length), i < below n L → L[i].2 < n
  | r :: L, 0, _, hb => by
    unfold below at hb
    split at hb
    · simpa
    · omega
  | r :: L, i + 1, h, hb => by
    unfold below at hb
    split at hb
    · have := below_lt n L i (by simpa using h) (by omega)
      simpa
    · omega
theorem below_ge (n : Int) : ∀ (L : List (Int × Int)), Nrm L → ∀ (i : Nat) (h : i < L.length), below n L ≤ i → n ≤ L[i].2
  | r :: L, hN, 0, _, hb => by
    unfold below at hb
    split at hb
    · omega
    · simp; omega
  | r :: L, hN, i + 1, h, hb => by
    have hN2 := Nrm.cons.1 hN
    have hi : i < L.length := by simpa using h
    unfold below at hb
    split at hb
    · have := below_ge n L hN2.2.2 i hi (by omega)
      simpa
    · have h1 := hN2.2.1 L[i] (List.getElem_mem hi)
      have h2 := hN2.2.2.1 L[i] (List.getElem_mem hi)
      simp; omega
theorem drop_ge {n : Int} {L : List (Int × Int)} (hN : Nrm L) {r : Int × Int} (hr : r ∈ L.drop (below n L)) : n ≤ r.2 := by
  obtain ⟨i, hi, rfl⟩ := List.getElem_of_mem hr
  rw [List.getElem_drop]
  exact below_ge n L hN _ _ (Nat.le_add_right _ _)
theorem take_lt {n : Int} {L : List (Int × Int)} {r : Int × Int} (hr : r ∈ L.take (below n L)) : r.2 < n := by
  obtain ⟨i, hi, rfl⟩ := List.getElem_of_mem hr
  rw [List.getElem_take]
  rw [List.length_take] at hi
  exact below_lt n L i (by omega) (by omega)
/-- How many runs at the front touch what they and lo to hi make; and that. -/
def absorb : Int → Int → List (Int × Int) → Nat × Int × Int
  | lo, hi, [] => (0, lo, hi)
  | lo, hi, r :: B => if r.1 ≤ hi + 1 then ((absorb (min lo r.1) (max hi r.2) B).1 + 1, (absorb (min lo r.1) (max hi r.2) B).2) else (0, lo, hi)
theorem absorb_le (lo hi : Int) (B : List (Int × Int)) : (absorb lo hi B).1 ≤ B.length := by
  induction B generalizing lo hi with
  | nil => simp [absorb]
  | cons r B ih =>
    unfold absorb
    split
    · simp only [List.length_cons]; exact Nat.succ_le_succ (ih _ _)
    · simp
theorem absorb_good : ∀ (B : List (Int × Int)) (lo hi : Int), lo ≤ hi → Nrm B → (∀ r ∈ B, lo - 1 ≤ r.2) →
    (Nrm ((absorb lo hi B).2 :: B.drop (absorb lo hi B).1) ∧ (∀ x, mem ((absorb lo hi B).2 :: B.drop (absorb lo hi B).1) x ↔ (lo ≤ x ∧ x ≤ hi) ∨ mem B x) ∧
      ∀ c, c < lo → (∀ r ∈ B, c < r.1) → ∀ r ∈ (absorb lo hi B).2 :: B.drop (absorb lo hi B).1, c < r.1)
  | [], lo, hi, h, _, _ => by
    simp only [absorb, List.drop_nil]
    exact ⟨.one h, fun x => by simp [mem], fun c h1 _ r hr => by simp at hr; subst hr; exact h1⟩
  | r :: B, lo, hi, h, hN, hB => by
    have hN2 := Nrm.cons.1 hN
    have hr := hB r (by simp)
    by_cases ht : r.1 ≤ hi + 1
    · have e : absorb lo hi (r :: B) = ((absorb (min lo r.1) (max hi r.2) B).1 + 1, (absorb (min lo r.1) (max hi r.2) B).2) := by rw [absorb, if_pos ht]
      have ih := absorb_good B (min lo r.1) (max hi r.2) (by omega) hN2.2.2 (fun q hq => by have := hB q (by simp [hq]); omega)
      rw [e]
      simp only [List.drop_succ_cons]
      refine ⟨ih.1, fun x => ?_, fun c h1 h2 q hq => ?_⟩
      · rw [ih.2.1, mem_cons, ← or_assoc]
        refine or_congr ?_ Iff.rfl
        omega
      · exact ih.2.2 c (by have := h2 r (by simp); omega) (fun q hq => h2 q (by simp [hq])) q hq
    · have e : absorb lo hi (r :: B) = (0, lo, hi) := by rw [absorb, if_neg ht]
      rw [e]
      simp only [List.drop_zero]
      refine ⟨Nrm.cons.2 ⟨h, fun q hq => ?_, hN⟩, fun x => mem_cons _ _ _, fun c h1 h2 q hq => ?_⟩
      · rcases List.mem_cons.1 hq with rfl | hq
        · show hi + 1 < q.1; omega
        · have := hN2.2.1 q hq
          show hi + 1 < q.1
          omega
      · rcases List.mem_cons.1 hq with rfl | hq
        · exact h1
        · exact h2 q hq
/-- Numbers put into a set. -/
def addR (L : List (Int × Int)) (lo hi : Int) : List (Int × Int) :=
  if hi < lo then L else
    L.take (below (lo - 1) L) ++ (absorb lo hi (L.drop (below (lo - 1) L))).2 :: L.drop (below (lo - 1) L + (absorb lo hi (L.drop (below (lo - 1) L))).1)
theorem add_good {L : List (Int × Int)} (hN : Nrm L) (lo hi : Int) : Nrm (addR L lo hi) ∧ ∀ x, mem (addR L lo hi) x ↔ mem L x ∨ (lo ≤ x ∧ x ≤ hi) := by
  unfold addR
  by_cases h : hi < lo
  · rw [if_pos h]
    exact ⟨hN, fun x => by constructor; exact .inl; rintro (h | h); exact h; omega⟩
  · rw [if_neg h]
    obtain ⟨b, hb⟩ : ∃ b, b = below (lo - 1) L := ⟨_, rfl⟩
    have hge : ∀ r ∈ L.drop b, lo - 1 ≤ r.2 := fun r hr => drop_ge hN (by rw [← hb]; exact hr)
    have hlt : ∀ r ∈ L.take b, r.2 < lo - 1 := fun r hr => take_lt (by rw [← hb]; exact hr)
    rw [← hb]
    have hsplit := List.take_append_drop b L
    have hN' := hN
    rw [← hsplit, Nrm.append] at hN'
    obtain ⟨hA, hB, hAB⟩ := hN'
    have hg := absorb_good (L.drop b) lo hi (by omega) hB hge
    rw [← List.drop_drop]
    refine ⟨Nrm.append.2 ⟨hA, hg.1, fun a ha q hq => ?_⟩, fun x => ?_⟩
    · exact hg.2.2 (a.2 + 1) (by have := hlt a ha; omega) (fun r hr => hAB a ha r hr) q hq
    · rw [mem_append, hg.2.1]
      conv => rhs; rw [← hsplit, mem_append]
      constructor
      · rintro (h1 | h1 | h1)
        · exact .inl (.inl h1)
        · exact .inr h1
        · exact .inl (.inr h1)
      · rintro ((h1 | h1) | h1)
        · exact .inl h1
        · exact .inr (.inr h1)
        · exact .inr (.inl h1)
theorem Nrm.add {L : List (Int × Int)} (hN : Nrm L) (lo hi : Int) : Nrm (addR L lo hi) := (add_good hN lo hi).1
theorem mem_add {L : List (Int × Int)} (hN : Nrm L) (lo hi x : Int) : mem (addR L lo hi) x ↔ mem L x ∨ (lo ≤ x ∧ x ≤ hi) := (add_good hN lo hi).2 x
/-- All of another set put into a set. -/
def joinR (L M : List (Int × Int)) : List (Int × Int) := M.foldl (fun a r => addR a r.1 r.2) L
theorem join_good (M : List (Int × Int)) : ∀ {L : List (Int × Int)}, Nrm L → Nrm (joinR L M) ∧ ∀ x, mem (joinR L M) x ↔ mem L x ∨ mem M x := by
  induction M with
  | nil => intro L h; exact ⟨h, fun x => by simp [joinR, mem]⟩
  | cons r M ih =>
    intro L h
    have := ih (h.add r.1 r.2)
    refine ⟨this.1, fun x => ?_⟩
    show mem (joinR (addR L r.1 r.2) M) x ↔ _
    rw [this.2, mem_add h, mem_cons, or_assoc]
theorem join_take (L M : List (Int × Int)) (k : Nat) (h : k < M.length) : joinR L (M.take (k + 1)) = addR (joinR L (M.take k)) M[k].1 M[k].2 := by
  unfold joinR
  rw [List.take_succ_eq_append_getElem h, List.foldl_append]
  rfl
/-- From lo to hi, but for gaps: what is put, and what is left of it. -/
def mloop : List (Int × Int) → Int → Int → List (Int × Int) → List (Int × Int) × Int
  | acc, lo, _, [] => (acc, lo)
  | acc, lo, hi, g :: gs => if hi < g.1 then (acc, lo) else mloop (addR acc lo (g.1 - 1)) (g.2 + 1) hi gs
theorem mloop_good : ∀ (gs : List (Int × Int)) {acc : List (Int × Int)} (lo hi : Int), Nrm acc → Nrm gs → (∀ g ∈ gs, lo ≤ g.2) →
    Nrm (mloop acc lo hi gs).1 ∧ ∀ x, (mem (mloop acc lo hi gs).1 x ∨ ((mloop acc lo hi gs).2 ≤ x ∧ x ≤ hi)) ↔ mem acc x ∨ ((lo ≤ x ∧ x ≤ hi) ∧ ¬ mem gs x)
  | [], acc, lo, hi, hA, _, _ => ⟨hA, fun x => by simp [mloop, mem]⟩
  | g :: gs, acc, lo, hi, hA, hG, hlo => by
    have hG2 := Nrm.cons.1 hG
    by_cases h : hi < g.1
    · rw [mloop, if_pos h]
      refine ⟨hA, fun x => or_congr Iff.rfl ⟨fun h1 => ⟨h1, ?_⟩, fun h1 => h1.1⟩⟩
      rw [mem_cons]
      rintro (h2 | ⟨q, hq, h2, h3⟩)
      · omega
      · have := hG2.2.1 q hq; omega
    · rw [mloop, if_neg h]
      have ih := mloop_good gs (g.2 + 1) hi (hA.add lo (g.1 - 1)) hG2.2.2 (fun q hq => by have := hG2.2.1 q hq; have := hG2.2.2.1 q hq; omega)
      refine ⟨ih.1, fun x => ?_⟩
      rw [ih.2, mem_add hA, mem_cons]
      have hg := hlo g (by simp)
      have hgs : mem gs x → g.2 + 1 < x := fun ⟨q, hq, h2, h3⟩ => by have := hG2.2.1 q hq; omega
      by_cases hm : mem gs x
      · have := hgs hm
        simp only [hm, not_true, and_false, or_false, or_true]
        constructor
        · rintro (h | h)
          · exact h
          · omega
        · exact .inl
      · simp only [hm, not_false_eq_true, and_true, or_false]
        rw [or_assoc]
        refine or_congr Iff.rfl ?_
        omega
/-- What a set has and another one hasn't. -/
def minusR (L M : List (Int × Int)) : List (Int × Int) :=
  L.foldl (fun a r => addR (mloop a r.1 r.2 (M.drop (below r.1 M))).1 (mloop a r.1 r.2 (M.drop (below r.1 M))).2 r.2) []
theorem minus_step {M a : List (Int × Int)} (hM : Nrm M) (ha : Nrm a) (r : Int × Int) :
    Nrm (addR (mloop a r.1 r.2 (M.drop (below r.1 M))).1 (mloop a r.1 r.2 (M.drop (below r.1 M))).2 r.2) ∧
      ∀ x, mem (addR (mloop a r.1 r.2 (M.drop (below r.1 M))).1 (mloop a r.1 r.2 (M.drop (below r.1 M))).2 r.2) x ↔ mem a x ∨ ((r.1 ≤ x ∧ x ≤ r.2) ∧ ¬ mem M x) := by
  have h := mloop_good (M.drop (below r.1 M)) (acc := a) r.1 r.2 ha (hM.drop _) (fun g hg => drop_ge hM hg)
  refine ⟨h.1.add _ _, fun x => ?_⟩
  rw [mem_add h.1, h.2]
  refine or_congr Iff.rfl (and_congr_right fun hx => not_congr ?_)
  conv => rhs; rw [← List.take_append_drop (below r.1 M) M, mem_append]
  refine ⟨.inr, ?_⟩
  rintro (⟨q, hq, h1, h2⟩ | h1)
  · have := take_lt hq; omega
  · exact h1
theorem minus_from {M : List (Int × Int)} (hM : Nrm M) : ∀ (L a : List (Int × Int)), Nrm a →
    Nrm (L.foldl (fun a r => addR (mloop a r.1 r.2 (M.drop (below r.1 M))).1 (mloop a r.1 r.2 (M.drop (below r.1 M))).2 r.2) a) ∧
      ∀ x, mem (L.foldl (fun a r => addR (mloop a r.1 r.2 (M.drop (below r.1 M))).1 (mloop a r.1 r.2 (M.drop (below r.1 M))).2 r.2) a) x ↔ mem a x ∨ (mem L x ∧ ¬ mem M x)
  | [], a, ha => ⟨ha, fun x => by simp [mem]⟩
  | r :: L, a, ha => by
    have h1 := minus_step hM ha r
    have h2 := minus_from hM L _ h1.1
    refine ⟨h2.1, fun x => ?_⟩
    rw [List.foldl_cons, h2.2, h1.2, mem_cons, or_assoc, ← or_and_right]
theorem Nrm.minus (L : List (Int × Int)) {M : List (Int × Int)} (hM : Nrm M) : Nrm (minusR L M) := (minus_from hM L [] .nil).1
theorem mem_minus (L : List (Int × Int)) {M : List (Int × Int)} (hM : Nrm M) (x : Int) : mem (minusR L M) x ↔ mem L x ∧ ¬ mem M x := by
  have := (minus_from hM L [] .nil).2 x
  rw [mem_nil, false_or] at this
  exact this
theorem Nrm.join {L : List (Int × Int)} (h : Nrm L) (M : List (Int × Int)) : Nrm (joinR L M) := (join_good M h).1
theorem mem_join {L : List (Int × Int)} (h : Nrm L) (M : List (Int × Int)) (x : Int) : mem (joinR L M) x ↔ mem L x ∨ mem M x := (join_good M h).2 x
/-- All of it is a place in a text of so many bytes. -/
def In (n : Int) (L : List (Int × Int)) : Prop := ∀ x, mem L x → 0 ≤ x ∧ x ≤ n
theorem In.run {n : Int} {L : List (Int × Int)} (hN : Nrm L) (h : In n L) {r : Int × Int} (hr : r ∈ L) : 0 ≤ r.1 ∧ r.1 ≤ r.2 ∧ r.2 ≤ n := by
  have h1 := hN.1 r hr
  have h2 := h r.1 ⟨r, hr, Int.le_refl _, h1⟩
  have h3 := h r.2 ⟨r, hr, h1, Int.le_refl _⟩
  omega
theorem In.length {n : Int} : ∀ {L : List (Int × Int)} (c : Int), Nrm L → (∀ r ∈ L, c ≤ r.1 ∧ r.2 ≤ n) → c ≤ n + 1 → (L.length : Int) ≤ n + 1 - c
  | [], c, _, _, hc => by simp; omega
  | r :: L, c, hN, h, _ => by
    have hN2 := Nrm.cons.1 hN
    have hr := h r (by simp)
    have := In.length (n := n) (L := L) (r.2 + 1) hN2.2.2 (fun q hq => ⟨by have := hN2.2.1 q hq; omega, (h q (by simp [hq])).2⟩) (by omega)
    simp only [List.length_cons]
    have := hN2.1
    omega
theorem In.len {n : Int} {L : List (Int × Int)} (hN : Nrm L) (h : In n L) (hn : 0 ≤ n) : (L.length : Int) ≤ n + 1 := by
  have := In.length (n := n) (L := L) 0 hN (fun r hr => by have := h.run hN hr; omega) (by omega)
  omega
/-- The last one. -/
def lastR (L : List (Int × Int)) : Int := (L.getLast?.getD (0, 0)).2
theorem last_good {L : List (Int × Int)} (hN : Nrm L) (h0 : L ≠ []) : mem L (lastR L) ∧ ∀ x, mem L x → x ≤ lastR L := by
  obtain ⟨A, r, rfl⟩ : ∃ A r, L = A ++ [r] := ⟨L.dropLast, L.getLast h0, (List.dropLast_concat_getLast h0).symm⟩
  have e : lastR (A ++ [r]) = r.2 := by simp [lastR]
  rw [e]
  obtain ⟨hA, hB, hAB⟩ := Nrm.append.1 hN
  have hr : r.1 ≤ r.2 := hB.1 r (by simp)
  refine ⟨(mem_append _ _ _).2 (.inr ⟨r, by simp, hr, Int.le_refl _⟩), fun x hx => ?_⟩
  rcases (mem_append _ _ _).1 hx with ⟨q, hq, h1, h2⟩ | ⟨q, hq, h1, h2⟩
  · have := hAB q hq r (by simp); omega
  · simp at hq; subst hq; exact h2
theorem mem_ne {L : List (Int × Int)} {x : Int} (h : mem L x) : L ≠ [] := by rintro rfl; simp [mem] at h
theorem mem_some {L : List (Int × Int)} (hN : Nrm L) (h0 : L ≠ []) : ∃ x, mem L x := ⟨_, (last_good hN h0).1⟩
/-- Two sets of the same places are the same runs. -/
theorem runs_eq : ∀ {L M : List (Int × Int)}, Nrm L → Nrm M → (∀ x, mem L x ↔ mem M x) → L = M
  | [], [], _, _, _ => rfl
  | [], r :: M, _, hM, h => absurd ((h r.1).2 ⟨r, by simp, Int.le_refl _, hM.1 r (by simp)⟩) (by simp [mem])
  | r :: L, [], hL, _, h => absurd ((h r.1).1 ⟨r, by simp, Int.le_refl _, hL.1 r (by simp)⟩) (by simp [mem])
  | r :: L, q :: M, hL, hM, h => by
    have hL2 := Nrm.cons.1 hL
    have hM2 := Nrm.cons.1 hM
    have lowL : ∀ x, mem (r :: L) x → r.1 ≤ x := fun x hx => by
      rcases (mem_cons _ _ _).1 hx with h | ⟨k, hk, h1, h2⟩
      · exact h.1
      · have := hL2.2.1 k hk; omega
    have lowM : ∀ x, mem (q :: M) x → q.1 ≤ x := fun x hx => by
      rcases (mem_cons _ _ _).1 hx with h | ⟨k, hk, h1, h2⟩
      · exact h.1
      · have := hM2.2.1 k hk; omega
    have m1 : mem (r :: L) r.1 := (mem_cons _ _ _).2 (.inl ⟨Int.le_refl _, hL2.1⟩)
    have m2 : mem (q :: M) q.1 := (mem_cons _ _ _).2 (.inl ⟨Int.le_refl _, hM2.1⟩)
    have e1 : r.1 = q.1 := by
      have a := lowM _ ((h _).1 m1)
      have b := lowL _ ((h _).2 m2)
      omega
    have gapL : ¬ mem (r :: L) (r.2 + 1) := fun hx => by
      rcases (mem_cons _ _ _).1 hx with h | ⟨k, hk, h1, h2⟩
      · omega
      · have := hL2.2.1 k hk; omega
    have gapM : ¬ mem (q :: M) (q.2 + 1) := fun hx => by
      rcases (mem_cons _ _ _).1 hx with h | ⟨k, hk, h1, h2⟩
      · omega
      · have := hM2.2.1 k hk; omega
    have e2 : r.2 = q.2 := by
      rcases Int.lt_trichotomy r.2 q.2 with hlt | he | hgt
      · exact absurd ((h _).2 ((mem_cons _ _ _).2 (.inl ⟨by have := hL2.1; omega, by omega⟩))) gapL
      · exact he
      · exact absurd ((h _).1 ((mem_cons _ _ _).2 (.inl ⟨by have := hM2.1; omega, by omega⟩))) gapM
    have e : r = q := Prod.ext e1 e2
    subst e
    congr 1
    refine runs_eq hL2.2.2 hM2.2.2 fun x => ?_
    have hx := h x
    rw [mem_cons, mem_cons] at hx
    constructor
    · intro hm
      rcases hx.1 (.inr hm) with h1 | h1
      · obtain ⟨k, hk, h2, h3⟩ := hm
        have := hL2.2.1 k hk; omega
      · exact h1
    · intro hm
      rcases hx.2 (.inr hm) with h1 | h1
      · obtain ⟨k, hk, h2, h3⟩ := hm
        have := hM2.2.1 k hk; omega
      · exact h1
end Go.Proofs.YtpfhhdiipedklaaDoor
