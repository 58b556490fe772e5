/- Words that are joined are these words again: the mathematics of P12.3. -/
import Derived.Test.YtplgnbedcjanhaaBg
set_option maxRecDepth 100000
namespace Go.Proofs.Ytplgnbedcjanhaa

/-- What may stand behind a word that is joined. -/
def Sep (r : List Nat) : Prop := r = [] ∨ ∃ r', r = 32 :: r'
theorem runN_app {p : Nat → Bool} (hp : p 32 = false) {r : List Nat} (hr : Sep r) : ∀ d : List Nat, runN p (d.take (runN p d) ++ r) = runN p d
  | [] => by
    rcases hr with rfl | ⟨r', rfl⟩
    · rfl
    · show runN p (32 :: r') = 0
      rw [runN, if_neg (by rw [hp]; decide)]
  | b :: d => by
    by_cases hb : p b = true
    · have e : runN p (b :: d) = runN p d + 1 := by rw [runN, if_pos hb]
      rw [e, List.take_succ_cons, List.cons_append, runN, if_pos hb, runN_app hp hr d]
    · have e : runN p (b :: d) = 0 := by rw [runN, if_neg hb]
      rw [e, List.take_zero, List.nil_append]
      rcases hr with rfl | ⟨r', rfl⟩
      · rfl
      · rw [runN, if_neg (by rw [hp]; decide)]
theorem slN_app (r : List Nat) : ∀ (e : Bool) (k : Nat) (d : List Nat), slN e k d ≠ 0 → slN e k (d.take (slN e k d - k) ++ r) = slN e k d ∧ ∃ u, d.take (slN e k d - k) = u ++ [47]
  | _, _, [], h => absurd rfl h
  | e, k, b :: d, h => by
    by_cases ha : b = 10 ∨ b = 13
    · rw [slN, if_pos ha] at h; exact absurd rfl h
    · by_cases hb : e = true
      · have E : slN e k (b :: d) = slN false (k + 1) d := by rw [slN, if_neg ha, if_pos hb]
        rw [E] at h ⊢
        have hg := slN_gt _ _ _ h
        obtain ⟨h1, u, h2⟩ := slN_app r false (k + 1) d h
        obtain ⟨m, hm⟩ : ∃ m, slN false (k + 1) d - k = m + 1 := ⟨slN false (k + 1) d - k - 1, by omega⟩
        have hm2 : slN false (k + 1) d - (k + 1) = m := by omega
        rw [hm2] at h1 h2
        rw [hm, List.take_succ_cons, List.cons_append, slN, if_neg ha, if_pos hb, h1]
        exact ⟨rfl, b :: u, by rw [h2]; rfl⟩
      · by_cases hc : b = 92
        · have E : slN e k (b :: d) = slN true (k + 1) d := by rw [slN, if_neg ha, if_neg hb, if_pos hc]
          rw [E] at h ⊢
          have hg := slN_gt _ _ _ h
          obtain ⟨h1, u, h2⟩ := slN_app r true (k + 1) d h
          obtain ⟨m, hm⟩ : ∃ m, slN true (k + 1) d - k = m + 1 := ⟨slN true (k + 1) d - k - 1, by omega⟩
          have hm2 : slN true (k + 1) d - (k + 1) = m := by omega
          rw [hm2] at h1 h2
          rw [hm, List.take_succ_cons, List.cons_append, slN, if_neg ha, if_neg hb, if_pos hc, h1]
          exact ⟨rfl, b :: u, by rw [h2]; rfl⟩
        · by_cases hd : b = 47
          · have E : slN e k (b :: d) = k + 1 := by rw [slN, if_neg ha, if_neg hb, if_neg hc, if_pos hd]
            rw [E, show k + 1 - k = 0 + 1 by omega, List.take_succ_cons, List.take_zero, List.cons_append, slN, if_neg ha, if_neg hb, if_neg hc, if_pos hd]
            exact ⟨rfl, [], by rw [hd]; rfl⟩
          · have E : slN e k (b :: d) = slN false (k + 1) d := by rw [slN, if_neg ha, if_neg hb, if_neg hc, if_neg hd]
            rw [E] at h ⊢
            have hg := slN_gt _ _ _ h
            obtain ⟨h1, u, h2⟩ := slN_app r false (k + 1) d h
            obtain ⟨m, hm⟩ : ∃ m, slN false (k + 1) d - k = m + 1 := ⟨slN false (k + 1) d - k - 1, by omega⟩
            have hm2 : slN false (k + 1) d - (k + 1) = m := by omega
            rw [hm2] at h1 h2
            rw [hm, List.take_succ_cons, List.cons_append, slN, if_neg ha, if_neg hb, if_neg hc, if_neg hd, h1]
            exact ⟨rfl, b :: u, by rw [h2]; rfl⟩
theorem let_sp {b : Nat} (h : isLet b = true) : isSp b = false ∧ b ≠ 35 := by
  unfold isLet at h
  simp only [Bool.or_eq_true, Bool.and_eq_true, decide_eq_true_eq] at h
  unfold isSp
  refine ⟨?_, by omega⟩
  simp only [Bool.or_eq_false_iff, decide_eq_false_iff_not]
  omega
theorem dig_sp {b : Nat} (h : isDig b = true) : isSp b = false ∧ b ≠ 35 := by
  unfold isDig at h
  simp only [Bool.and_eq_true, decide_eq_true_eq] at h
  unfold isSp
  refine ⟨?_, by omega⟩
  simp only [Bool.or_eq_false_iff, decide_eq_false_iff_not]
  omega
/-- A word's own bytes are read as it, whatever is joined to it. -/
structure Good (x : Wd) : Prop where
  sort : ∃ k : Nat, x.kind = k ∧ (∀ r, Sep r → fstW (outW x ++ r) = (k, (outW x).length)) ∧ insT k (outW x) = x.txt
  head : ∃ b t, outW x = b :: t ∧ isSp b = false ∧ b ≠ 35
theorem good_word {d : List Nat} {k n p : Nat} (h : fstW d = (k, n)) (hn : n ≠ 0) : outW ⟨k, insT k (d.take n), p⟩ = d.take n ∧ Good ⟨k, insT k (d.take n), p⟩ := by
  have hle : n ≤ d.length := by have := fstW_le d; rw [h] at this; exact this
  cases d with
  | nil => have := (Prod.mk.inj h).2; omega
  | cons b d =>
    have ht : (b :: d).take n = b :: d.take (n - 1) := by obtain ⟨m, rfl⟩ : ∃ m, n = m + 1 := ⟨n - 1, by omega⟩; rw [List.take_succ_cons]; rfl
    have hlen : ((b :: d).take n).length = n := by rw [List.length_take]; omega
    cases hL : isLet b with
    | true =>
      rw [fst_let hL] at h
      obtain ⟨h1, h2⟩ := Prod.mk.inj h
      have h3 : runN isNam (b :: d) = n := by unfold capN at h2; split at h2 <;> omega
      have hc : ¬ 32 < n := fun hc => by rw [h3, cap_yes hc] at h2; omega
      subst h1
      have ho : outW ⟨((0 : Nat) : Int), insT 0 ((b :: d).take n), p⟩ = (b :: d).take n := by unfold outW insT; simp
      refine ⟨ho, ⟨⟨0, rfl, fun r hr => ?_, by rw [ho]⟩, ⟨b, _, by rw [ho, ht], let_sp hL⟩⟩⟩
      rw [ho, hlen]
      have h4 := runN_app (p := isNam) (by decide) hr (b :: d)
      rw [h3] at h4
      rw [ht, List.cons_append] at h4 ⊢
      rw [fst_let hL, h4, cap_no hc]
    | false =>
      cases hD : isDig b with
      | true =>
        rw [fst_dig hL hD] at h
        obtain ⟨h1, h2⟩ := Prod.mk.inj h
        have h3 : runN isDig (b :: d) = n := by unfold capN at h2; split at h2 <;> omega
        have hc : ¬ 4 < n := fun hc => by rw [h3, cap_yes hc] at h2; omega
        subst h1
        have ho : outW ⟨((1 : Nat) : Int), insT 1 ((b :: d).take n), p⟩ = (b :: d).take n := by unfold outW insT; simp
        refine ⟨ho, ⟨⟨1, rfl, fun r hr => ?_, by rw [ho]⟩, ⟨b, _, by rw [ho, ht], dig_sp hD⟩⟩⟩
        rw [ho, hlen]
        have h4 := runN_app (p := isDig) (by decide) hr (b :: d)
        rw [h3] at h4
        rw [ht, List.cons_append] at h4 ⊢
        rw [fst_dig hL hD, h4, cap_no hc]
      | false =>
        by_cases h47 : b = 47
        · rw [fst_slash hL hD h47] at h
          obtain ⟨h1, h2⟩ := Prod.mk.inj h
          subst h1
          have hg := slN_gt false 1 d (by omega)
          obtain ⟨_, u, hu⟩ := slN_app [] false 1 d (by omega)
          rw [h2] at hu hg
          have hul : u.length = n - 2 := by
            have := congrArg List.length hu
            rw [List.length_take, List.length_append] at this
            simp at this hle
            omega
          have hins : insT 2 ((b :: d).take n) = u := by
            rw [insT, if_pos rfl, hlen, ht, hu]
            obtain ⟨m, rfl⟩ : ∃ m, n = m + 2 := ⟨n - 2, by omega⟩
            rw [show m + 2 - 1 = m + 1 by omega, List.take_succ_cons, List.drop_succ_cons, List.drop_zero, List.take_append_of_le_length (by omega), List.take_of_length_le (by omega)]
          have ho : outW ⟨((2 : Nat) : Int), insT 2 ((b :: d).take n), p⟩ = (b :: d).take n := by
            rw [hins, ht, hu, h47]; rfl
          refine ⟨ho, ⟨⟨2, rfl, fun r hr => ?_, by rw [ho]⟩, ⟨b, _, by rw [ho, ht], by subst h47; decide⟩⟩⟩
          rw [ho, hlen]
          obtain ⟨h5, _⟩ := slN_app r false 1 d (by omega)
          rw [h2] at h5
          rw [ht, List.cons_append, fst_slash hL hD h47, h5]
        · by_cases hm : b = 58 ∨ b = 124 ∨ b = 59
          · rw [fst_mark hL hD h47 hm] at h
            obtain ⟨h1, h2⟩ := Prod.mk.inj h
            subst h1 h2
            have ho : outW ⟨((3 : Nat) : Int), insT 3 ((b :: d).take 1), p⟩ = (b :: d).take 1 := by unfold outW insT; simp
            refine ⟨ho, ⟨⟨3, rfl, fun r hr => ?_, by rw [ho]⟩, ⟨b, _, by rw [ho, ht], by rcases hm with rfl | rfl | rfl <;> decide⟩⟩⟩
            rw [ho, hlen, ht, List.cons_append, fst_mark hL hD h47 hm]
          · rw [fst_none hL hD h47 hm] at h
            have := (Prod.mk.inj h).2; omega
/-- The words of a text: each is good, they rise, none is longer than what it stands on. -/
theorem wds_good {l : List Nat} : ∀ {n p : Nat}, l.length - p ≤ n → (∀ x ∈ (wds l p).1, Good x ∧ p ≤ x.pos) ∧ (wds l p).1.Pairwise (fun a b => a.pos < b.pos)
  | 0, p, hn => by rw [wds_end (by omega)]; exact ⟨(fun x h => by cases h), .nil⟩
  | n + 1, p, hn => by
    by_cases hp : p < l.length
    · obtain ⟨k, hk⟩ : ∃ k, (fstW (l.drop p)).1 = k := ⟨_, rfl⟩
      obtain ⟨m, hm⟩ : ∃ m, (fstW (l.drop p)).2 = m := ⟨_, rfl⟩
      have hf : fstW (l.drop p) = (k, m) := by rw [← hk, ← hm]
      by_cases hz : m = 0
      · rw [wds_bad hp (by rw [hf]; exact hz)]; exact ⟨(fun x h => by cases h), .nil⟩
      · rw [wds_more hp hf hz rfl]
        have ih := wds_good (l := l) (n := n) (p := p + m + skN false (l.drop (p + m))) (by omega)
        refine ⟨fun x hx => ?_, List.pairwise_cons.2 ⟨fun x hx => ?_, ih.2⟩⟩
        · rcases List.mem_cons.1 hx with rfl | hx
          · exact ⟨(good_word hf hz).2, Nat.le_refl _⟩
          · have := ih.1 x hx; exact ⟨this.1, by omega⟩
        · have := (ih.1 x hx).2
          show p < x.pos
          omega
    · rw [wds_end hp]; exact ⟨(fun x h => by cases h), .nil⟩
theorem joinL_cons (x y : Wd) (ws : List Wd) : joinL (x :: y :: ws) = outW x ++ 32 :: joinL (y :: ws) := by
  have h : ∀ (ws : List Wd) (a b : List Nat), ws.foldl (fun o v => o ++ 32 :: outW v) (a ++ b) = a ++ ws.foldl (fun o v => o ++ 32 :: outW v) b := by
    intro ws
    induction ws with
    | nil => intro a b; rfl
    | cons v ws ih => intro a b; rw [List.foldl_cons, List.foldl_cons, List.append_assoc, ih]
  show (y :: ws).foldl _ (outW x) = _
  rw [List.foldl_cons, show outW x ++ 32 :: outW y = (outW x ++ [32]) ++ outW y by rw [List.append_assoc]; rfl, h, List.append_assoc]; rfl
theorem joinL_short {l : List Nat} : ∀ {n p : Nat}, l.length - p ≤ n → (joinL (wds l p).1).length ≤ 2 * (l.length - p)
  | 0, p, hn => by rw [wds_end (by omega)]; exact Nat.zero_le _
  | n + 1, p, hn => by
    by_cases hp : p < l.length
    · obtain ⟨k, hk⟩ : ∃ k, (fstW (l.drop p)).1 = k := ⟨_, rfl⟩
      obtain ⟨m, hm⟩ : ∃ m, (fstW (l.drop p)).2 = m := ⟨_, rfl⟩
      have hf : fstW (l.drop p) = (k, m) := by rw [← hk, ← hm]
      by_cases hz : m = 0
      · rw [wds_bad hp (by rw [hf]; exact hz)]; exact Nat.zero_le _
      · rw [wds_more hp hf hz rfl]
        have hfit := fst_fits hf
        have ho := (good_word (p := p) hf hz).1
        have hol : (outW ⟨k, insT k ((l.drop p).take m), p⟩).length = m := by rw [ho, List.length_take, List.length_drop]; omega
        have ih := joinL_short (l := l) (n := n) (p := p + m + skN false (l.drop (p + m))) (by omega)
        cases hw : (wds l (p + m + skN false (l.drop (p + m)))).1 with
        | nil => show (outW _).length ≤ _; rw [hol]; omega
        | cons y ws =>
          rw [hw] at ih
          show (joinL (_ :: y :: ws)).length ≤ _
          rw [joinL_cons, List.length_append, List.length_cons, hol]
          omega
    · rw [wds_end hp]; exact Nat.zero_le _
theorem joinL_bytes {ws : List Wd} (h : ∀ x ∈ ws, ∀ b ∈ outW x, b < 256) : ∀ b ∈ joinL ws, b < 256 := by
  induction ws with
  | nil => intro b hb; cases hb
  | cons x ws ih =>
    cases ws with
    | nil => exact h x (by simp)
    | cons y ws =>
      intro b hb
      rw [joinL_cons] at hb
      rcases List.mem_append.1 hb with hb | hb
      · exact h x (by simp) b hb
      · rcases List.mem_cons.1 hb with rfl | hb
        · omega
        · exact ih (fun z hz => h z (by simp [hz])) b hb
theorem wds_bytes {l : List Nat} (hl : ∀ b ∈ l, b < 256) : ∀ {n p : Nat}, l.length - p ≤ n → ∀ x ∈ (wds l p).1, ∀ b ∈ outW x, b < 256
  | 0, p, hn => by rw [wds_end (by omega)]; intro x h; cases h
  | n + 1, p, hn => by
    by_cases hp : p < l.length
    · obtain ⟨k, hk⟩ : ∃ k, (fstW (l.drop p)).1 = k := ⟨_, rfl⟩
      obtain ⟨m, hm⟩ : ∃ m, (fstW (l.drop p)).2 = m := ⟨_, rfl⟩
      have hf : fstW (l.drop p) = (k, m) := by rw [← hk, ← hm]
      by_cases hz : m = 0
      · rw [wds_bad hp (by rw [hf]; exact hz)]; intro x h; cases h
      · rw [wds_more hp hf hz rfl]
        intro x hx b hb
        rcases List.mem_cons.1 hx with rfl | hx
        · rw [(good_word hf hz).1] at hb
          exact hl b (List.mem_of_mem_drop (List.mem_of_mem_take hb))
        · exact wds_bytes hl (n := n) (by omega) x hx b hb
    · rw [wds_end hp]; intro x h; cases h
/-- The words again, at other places. -/
def reP : List Wd → Nat → List Wd
  | [], _ => []
  | x :: ws, p => ⟨x.kind, x.txt, p⟩ :: reP ws (p + (outW x).length + 1)
theorem reP_len : ∀ (ws : List Wd) (p : Nat), (reP ws p).length = ws.length
  | [], _ => rfl
  | x :: ws, p => by rw [reP, List.length_cons, reP_len ws]; rfl
theorem reP_at : ∀ (ws : List Wd) (p i : Nat) (h : i < ws.length) (h' : i < (reP ws p).length), ws[i].kind = (reP ws p)[i].kind ∧ ws[i].txt = (reP ws p)[i].txt
  | x :: ws, p, 0, _, _ => ⟨rfl, rfl⟩
  | x :: ws, p, i + 1, h, h' => by
    have := reP_at ws (p + (outW x).length + 1) i (by simpa using h) (by rw [reP_len]; simpa using h)
    simpa [reP] using this
theorem joinL_head {ws : List Wd} (h : ∀ x ∈ ws, Good x) : skN false (joinL ws) = 0 := by
  cases ws with
  | nil => rfl
  | cons x ws =>
    obtain ⟨b, t, hb, h1, h2⟩ := (h x (by simp)).head
    have : ∃ t', joinL (x :: ws) = b :: t' := by
      cases ws with
      | nil => exact ⟨t, hb⟩
      | cons y ws => rw [joinL_cons, hb]; exact ⟨_, rfl⟩
    obtain ⟨t', ht⟩ := this
    rw [ht, skN, if_neg (by rw [h1]; decide), if_neg h2]
theorem again : ∀ (ws : List Wd) (pre : List Nat), (∀ x ∈ ws, Good x) → wds (pre ++ joinL ws) pre.length = (reP ws pre.length, none)
  | [], pre, _ => by rw [wds_end (by simp [joinL])]; rfl
  | x :: ws, pre, h => by
    have hx := h x (by simp)
    obtain ⟨b, t, hb, _, _⟩ := hx.head
    obtain ⟨r, hr, hj⟩ : ∃ r, Sep r ∧ joinL (x :: ws) = outW x ++ r := by
      cases ws with
      | nil => exact ⟨[], .inl rfl, by rw [List.append_nil]; rfl⟩
      | cons y ws => exact ⟨32 :: joinL (y :: ws), .inr ⟨_, rfl⟩, joinL_cons x y ws⟩
    have hd : (pre ++ joinL (x :: ws)).drop pre.length = outW x ++ r := by rw [List.drop_left, hj]
    obtain ⟨kx, hkx, hrd, htx⟩ := hx.sort
    have hf := hrd r hr
    have hn : (outW x).length ≠ 0 := by rw [hb]; simp
    have hlen : pre.length < (pre ++ joinL (x :: ws)).length := by rw [hj, List.length_append, List.length_append]; omega
    rw [← hd] at hf
    rw [wds_more hlen hf hn rfl, hd, List.take_left, htx]
    have hd2 : (pre ++ joinL (x :: ws)).drop (pre.length + (outW x).length) = r := by rw [← List.drop_drop, hd, List.drop_left]
    rw [hd2, reP, hkx]
    cases ws with
    | nil =>
      rcases hr with rfl | ⟨r', rfl⟩
      · rw [skN_nil, Nat.add_zero, wds_end (by rw [hj, List.append_nil, List.length_append]; omega)]; rfl
      · exfalso
        have := congrArg List.length hj
        rw [List.length_append] at this
        have e : (joinL [x]).length = (outW x).length := rfl
        rw [e] at this
        simp at this
    | cons y ws =>
      have hr2 : r = 32 :: joinL (y :: ws) := by
        rw [joinL_cons] at hj
        exact (List.append_cancel_left hj).symm
      subst hr2
      have hsk : skN false (32 :: joinL (y :: ws)) = 1 := by rw [skN, if_pos (by decide), joinL_head fun z hz => h z (by simp [hz])]
      rw [hsk]
      have hpre : pre.length + (outW x).length + 1 = (pre ++ outW x ++ [32]).length := by simp; omega
      have he : pre ++ joinL (x :: y :: ws) = (pre ++ outW x ++ [32]) ++ joinL (y :: ws) := by rw [joinL_cons]; simp
      rw [he, hpre, again (y :: ws) (pre ++ outW x ++ [32]) fun z hz => h z (by simp [hz])]
theorem back_words (l : List Nat) : allW (joinL (allW l).1) = (reP (allW l).1 0, none) := by
  have hg := (wds_good (l := l) (n := l.length - skN false l) (p := skN false l) (Nat.le_refl _)).1
  have h1 := again (allW l).1 [] fun x hx => (hg x hx).1
  have h2 := joinL_head (ws := (allW l).1) fun x hx => (hg x hx).1
  show wds _ _ = _
  rw [h2]
  exact h1
theorem good_name {x : Wd} (h : Good x) (hk : x.kind = 0) : isNameW x.txt = true := by
  obtain ⟨kx, hkx, hrd, h2⟩ := h.sort
  have h1 := hrd [] (.inl rfl)
  obtain ⟨b, t, hb, _⟩ := h.head
  obtain rfl : kx = 0 := by omega
  rw [insT, if_neg (by decide)] at h2
  rw [List.append_nil, h2] at h1
  unfold isNameW
  rw [h1]
  have : 0 < x.txt.length := by rw [← h2, hb]; simp
  simp [this]
/-- The words by counting down. -/
def wdF : Nat → List Nat → Nat → List Wd × Option Nat
  | 0, _, _ => ([], none)
  | n + 1, l, p =>
    if p < l.length then
      if (fstW (l.drop p)).2 = 0 then ([], some p)
      else
        (⟨(fstW (l.drop p)).1, insT (fstW (l.drop p)).1 ((l.drop p).take (fstW (l.drop p)).2), p⟩ :: (wdF n l (p + (fstW (l.drop p)).2 + skN false (l.drop (p + (fstW (l.drop p)).2)))).1, (wdF n l (p + (fstW (l.drop p)).2 + skN false (l.drop (p + (fstW (l.drop p)).2)))).2)
    else ([], none)
theorem wdF_is {l : List Nat} : ∀ {n p : Nat}, l.length - p ≤ n → wds l p = wdF n l p
  | 0, p, hn => by rw [wds_end (by omega)]; rfl
  | n + 1, p, hn => by
    by_cases hp : p < l.length
    · by_cases hz : (fstW (l.drop p)).2 = 0
      · rw [wds_bad hp hz, wdF, if_pos hp, if_pos hz]
      · rw [wds_more hp (k := (fstW (l.drop p)).1) (n := (fstW (l.drop p)).2) rfl hz rfl, wdF, if_pos hp, if_neg hz, wdF_is (n := n) (by omega)]
    · rw [wds_end hp, wdF, if_neg hp]
theorem ex1 : allW [65, 32, 58, 32, 98, 124, 99, 32, 59, 32, 35, 32, 120] = ([⟨0, [65], 0⟩, ⟨3, [58], 2⟩, ⟨0, [98], 4⟩, ⟨3, [124], 5⟩, ⟨0, [99], 6⟩, ⟨3, [59], 8⟩], none) := by
  show wds _ _ = _
  rw [wdF_is (n := 13) (by decide)]; rfl
theorem ex2 : allW [97, 10, 32, 47, 120, 10, 47] = ([⟨0, [97], 0⟩], some 3) := by
  show wds _ _ = _
  rw [wdF_is (n := 7) (by decide)]; rfl
theorem ex3 : allW [47, 97, 92, 47, 98, 47, 32, 49, 50] = ([⟨2, [97, 92, 47, 98], 0⟩, ⟨1, [49, 50], 7⟩], none) := by
  show wds _ _ = _
  rw [wdF_is (n := 9) (by decide)]; rfl
end Go.Proofs.Ytplgnbedcjanhaa
