/- Texts that a proof rests on: Mathematics of minim.Least: what holds alike states together; classes that are stable; the walk by first coming over classes: two walks over alike states are alike place by place. | Mathematics of minim.Least: the least machine's states are alike to those come to; it is its own least machine. | Mathematics of minim.Least: it is its own least machine; states of the least machine are told apart. | Mathematics of minim.trimmed: the states of use, in their order; each is alike to what it was. | Mathematics of the reference's apart: a table of pairs, of which one stands for nowhere. | A table of pairs, as it lies while it is written. | The contract of homographref08.apart. -/
import Derived.Test.YtamgldhnfcikbaaK17
set_option maxRecDepth 100000
namespace Go.Proofs.Ytamgldhnfcikbaa
open Go.RowKit

def AlikeS (m n : List Sta) (s t : Int) : Prop := ¬ Apart m n s t
theorem alike_iff {m n : List Sta} {s t : Int} : AlikeS m n s t ↔ ∀ bs : List Nat, (∀ b ∈ bs, b < 256) → accS m (runFrom m s bs) = accS n (runFrom n t bs) := by
  unfold AlikeS
  rw [apart_iff]
  constructor
  · intro h bs hb
    exact Decidable.byContradiction fun e => h ⟨bs, hb, e⟩
  · rintro h ⟨bs, hb, e⟩
    exact e (h bs hb)
theorem AlikeS.refl (m : List Sta) (s : Int) : AlikeS m m s s := alike_iff.2 fun _ _ => rfl
theorem AlikeS.symm {m n : List Sta} {s t : Int} (h : AlikeS m n s t) : AlikeS n m t s := alike_iff.2 fun bs hb => (alike_iff.1 h bs hb).symm
theorem AlikeS.trans {m n p : List Sta} {s t u : Int} (h : AlikeS m n s t) (k : AlikeS n p t u) : AlikeS m p s u := alike_iff.2 fun bs hb => (alike_iff.1 h bs hb).trans (alike_iff.1 k bs hb)
theorem AlikeS.next {m n : List Sta} {s t : Int} (h : AlikeS m n s t) {b : Nat} (hb : b < 256) : AlikeS m n (nextS m s b) (nextS n t b) := fun k => h (.step hb k)
theorem AlikeS.acc {m n : List Sta} {s t : Int} (h : AlikeS m n s t) : accS m s = accS n t := Decidable.byContradiction fun e => h (.acc e)
def DeadS (m : List Sta) (s : Int) : Prop := ∀ bs : List Nat, (∀ b ∈ bs, b < 256) → accS m (runFrom m s bs) = 0
theorem AlikeS.dead {m n : List Sta} {s t : Int} (h : AlikeS m n s t) : DeadS m s ↔ DeadS n t :=
  ⟨fun k bs hb => (alike_iff.1 h bs hb).symm.trans (k bs hb), fun k bs hb => (alike_iff.1 h bs hb).trans (k bs hb)⟩
theorem DeadS.next {m : List Sta} {s : Int} (h : DeadS m s) {b : Nat} (hb : b < 256) : DeadS m (nextS m s b) := fun bs h2 => h (b :: bs) fun x hx => by
  rcases List.mem_cons.1 hx with rfl | hx
  · exact hb
  · exact h2 x hx
theorem dead_alike {m n : List Sta} {s t : Int} (h : DeadS m s) (k : DeadS n t) : AlikeS m n s t := alike_iff.2 fun bs hb => (h bs hb).trans (k bs hb).symm
theorem next_none {m : List Sta} {s : Int} (h : s < 0) (b : Nat) : nextS m s b < 0 := by
  unfold nextS
  rw [dif_neg (by omega)]; omega
theorem dead_none (m : List Sta) : ∀ (bs : List Nat) (s : Int), s < 0 → accS m (runFrom m s bs) = 0
  | [], _, h => accS_none (.inl h)
  | b :: bs, s, h => dead_none m bs (nextS m s b) (next_none h b)
theorem dead_below {m : List Sta} {s : Int} (h : s < 0) : DeadS m s := fun bs _ => dead_none m bs s h
theorem alike_go {m : List Sta} {n : Nat} (hr : ∀ s : Nat, s < n → ∀ b, b < 256 → nextS m s b < 0 ∨ ∃ y : Nat, y < n ∧ nextS m s b = y) (hu : ∀ x : Nat, x < n → ¬ DeadS m x)
    {s t b : Nat} (hs : s < n) (ht : t < n) (hb : b < 256) (h : AlikeS m m s t) {x : Nat} (hx : nextS m s b = x) : ∃ y : Nat, y < n ∧ nextS m t b = y ∧ AlikeS m m x y := by
  have hxn : x < n := by
    rcases hr s hs b hb with h1 | ⟨y, h1, h2⟩
    · omega
    · omega
  have hg := h.next hb
  rw [hx] at hg
  rcases hr t ht b hb with h1 | ⟨y, h1, h2⟩
  · exact absurd ((hg.dead).2 (dead_below h1)) (hu x hxn)
  · exact ⟨y, h1, h2, by rw [h2] at hg; exact hg⟩
theorem class_alike {m : List Sta} {n : Nat} {C : Nat → Nat} (hr : ∀ s : Nat, s < n → ∀ b, b < 256 → nextS m s b < 0 ∨ ∃ y : Nat, y < n ∧ nextS m s b = y)
    (ha : ∀ s t, s < n → t < n → C s = C t → accS m (s : Nat) = accS m (t : Nat)) (hd : ∀ s t b x, s < n → t < n → C s = C t → b < 256 → x < n → nextS m (s : Nat) b = (x : Nat) → ∃ y : Nat, y < n ∧ nextS m (t : Nat) b = y ∧ C y = C x)
    {s t : Nat} (hs : s < n) (ht : t < n) (e : C s = C t) : AlikeS m m s t := by
  have key : ∀ s' t' : Int, Apart m m s' t' → (s' < 0 ∧ t' < 0) ∨ (∃ s t : Nat, s < n ∧ t < n ∧ s' = s ∧ t' = t ∧ C s = C t) → False := by
    intro s' t' hA
    induction hA with
    | acc h =>
      rintro (⟨h1, h2⟩ | ⟨s, t, hs, ht, rfl, rfl, e⟩)
      · exact h ((accS_none (.inl h1)).trans (accS_none (.inl h2)).symm)
      · exact h (ha s t hs ht e)
    | @step s' t' b hb _ ih =>
      rintro (⟨h1, h2⟩ | ⟨s, t, hs, ht, rfl, rfl, e⟩)
      · exact ih (.inl ⟨next_none h1 b, next_none h2 b⟩)
      · rcases hr s hs b hb with h1 | ⟨x, hx, h1⟩
        · rcases hr t ht b hb with h2 | ⟨y, hy, h2⟩
          · exact ih (.inl ⟨h1, h2⟩)
          · obtain ⟨z, hz, h3, _⟩ := hd t s b y ht hs e.symm hb hy h2
            omega
        · obtain ⟨y, hy, h2, h3⟩ := hd s t b x hs ht e hb hx h1
          exact ih (.inr ⟨x, y, hx, hy, h1, h2, h3.symm⟩)
  exact fun h => key s t h (.inr ⟨s, t, hs, ht, rfl, rfl, e⟩)

def pushK (key : Nat → Nat) (L : List Nat) (y : Nat) : List Nat := if key y ∈ L.map key then L else L ++ [y]
def rowK (next : Nat → Nat → Option Nat) (key : Nat → Nat) (L : List Nat) (s : Nat) : Nat → List Nat
  | 0 => L
  | b + 1 => match next s b with
    | none => rowK next key L s b
    | some y => pushK key (rowK next key L s b) y
def walkK (next : Nat → Nat → Option Nat) (key : Nat → Nat) (s0 : Nat) : Nat → List Nat
  | 0 => [s0]
  | i + 1 => match (walkK next key s0 i)[i]? with
    | none => walkK next key s0 i
    | some s => rowK next key (walkK next key s0 i) s 256
def numK (key : Nat → Nat) (L : List Nat) (y : Nat) : Nat := (L.map key).findIdx (key y == ·)
theorem pushK_old {key : Nat → Nat} {L : List Nat} {y : Nat} (h : key y ∈ L.map key) : pushK key L y = L := if_pos h
theorem pushK_new {key : Nat → Nat} {L : List Nat} {y : Nat} (h : key y ∉ L.map key) : pushK key L y = L ++ [y] := if_neg h
theorem pushK_ext (key : Nat → Nat) (L : List Nat) (y : Nat) : ∃ M, pushK key L y = L ++ M := by
  by_cases h : key y ∈ L.map key
  · exact ⟨[], by rw [pushK_old h, List.append_nil]⟩
  · exact ⟨[y], pushK_new h⟩
theorem pushK_mem (key : Nat → Nat) (L : List Nat) (y : Nat) : key y ∈ (pushK key L y).map key := by
  by_cases h : key y ∈ L.map key
  · rw [pushK_old h]; exact h
  · rw [pushK_new h]; simp
theorem pushK_nodup {key : Nat → Nat} {L : List Nat} (h : (L.map key).Nodup) (y : Nat) : ((pushK key L y).map key).Nodup := by
  by_cases hm : key y ∈ L.map key
  · rw [pushK_old hm]; exact h
  · rw [pushK_new hm, List.map_append, List.map_singleton]
    exact List.nodup_append.2 ⟨h, by simp, fun a ha b hb e => by
      rw [List.mem_singleton] at hb
      exact hm (hb ▸ e ▸ ha)⟩
theorem numK_ext {key : Nat → Nat} {L : List Nat} (M : List Nat) {y : Nat} (h : key y ∈ L.map key) : numK key (L ++ M) y = numK key L y := by
  unfold numK
  have h1 : (L.map key).findIdx (key y == ·) < (L.map key).length := List.findIdx_lt_length_of_exists ⟨key y, h, by simp⟩
  rw [List.map_append, List.findIdx_append, if_pos h1]
theorem numK_lt {key : Nat → Nat} {L : List Nat} {y : Nat} (h : key y ∈ L.map key) : numK key L y < L.length := by
  have h1 : (L.map key).findIdx (key y == ·) < (L.map key).length := List.findIdx_lt_length_of_exists ⟨key y, h, by simp⟩
  rw [List.length_map] at h1; exact h1
theorem numK_at {key : Nat → Nat} {L : List Nat} {y : Nat} (h : key y ∈ L.map key) : ∃ z, L[numK key L y]? = some z ∧ key z = key y := by
  have h1 := numK_lt h
  refine ⟨L[numK key L y], List.getElem?_eq_getElem h1, ?_⟩
  have h2 := List.findIdx_getElem (p := (key y == ·)) (xs := L.map key) (w := by rw [List.length_map]; exact h1)
  rw [List.getElem_map] at h2
  exact (eq_of_beq h2).symm
theorem numK_new {key : Nat → Nat} {L : List Nat} {y : Nat} (h : key y ∉ L.map key) : numK key (L ++ [y]) y = L.length := by
  unfold numK
  rw [List.map_append, List.findIdx_append]
  have h1 : (L.map key).findIdx (key y == ·) = (L.map key).length := List.findIdx_eq_length.2 fun z hz => by
    simp only [beq_eq_false_iff_ne, ne_eq]
    exact fun e => h (e ▸ hz)
  rw [h1, if_neg (Nat.lt_irrefl _), List.length_map]
  simp
theorem rowK_ext (next : Nat → Nat → Option Nat) (key : Nat → Nat) (L : List Nat) (s : Nat) : ∀ b, ∃ M, rowK next key L s b = L ++ M
  | 0 => ⟨[], by rw [rowK, List.append_nil]⟩
  | b + 1 => by
    obtain ⟨M, hM⟩ := rowK_ext next key L s b
    rw [rowK]
    cases next s b with
    | none => exact ⟨M, hM⟩
    | some y =>
      obtain ⟨M2, h2⟩ := pushK_ext key (rowK next key L s b) y
      exact ⟨M ++ M2, by simp only [h2]; rw [hM, List.append_assoc]⟩
def Pairs (R : Nat → Nat → Prop) (L L' : List Nat) : Prop := L.length = L'.length ∧ ∀ i x y : Nat, L[i]? = some x → L'[i]? = some y → R x y
theorem Pairs.mem {R : Nat → Nat → Prop} {key key' : Nat → Nat} (hk : ∀ s t s' t', R s t → R s' t' → (key s = key s' ↔ key' t = key' t')) {L L' : List Nat} (h : Pairs R L L') {y y' : Nat} (hy : R y y') : key y ∈ L.map key ↔ key' y' ∈ L'.map key' := by
  constructor
  · intro hm
    obtain ⟨z, hz, e⟩ := List.mem_map.1 hm
    obtain ⟨i, hi, rfl⟩ := List.mem_iff_getElem.1 hz
    have hi' : i < L'.length := by rw [← h.1]; exact hi
    exact List.mem_map.2 ⟨L'[i], List.getElem_mem hi', (hk _ _ _ _ (h.2 i _ _ (List.getElem?_eq_getElem hi) (List.getElem?_eq_getElem hi')) hy).1 e⟩
  · intro hm
    obtain ⟨z, hz, e⟩ := List.mem_map.1 hm
    obtain ⟨i, hi', rfl⟩ := List.mem_iff_getElem.1 hz
    have hi : i < L.length := by rw [h.1]; exact hi'
    exact List.mem_map.2 ⟨L[i], List.getElem_mem hi, (hk _ _ _ _ (h.2 i _ _ (List.getElem?_eq_getElem hi) (List.getElem?_eq_getElem hi')) hy).2 e⟩
theorem Pairs.snoc {R : Nat → Nat → Prop} {L L' : List Nat} (h : Pairs R L L') {y y' : Nat} (hy : R y y') : Pairs R (L ++ [y]) (L' ++ [y']) := by
  refine ⟨by simp [h.1], fun i a b ha hb => ?_⟩
  rcases Nat.lt_or_ge i L.length with hi | hi
  · rw [List.getElem?_append_left hi] at ha
    rw [List.getElem?_append_left (by rw [← h.1]; exact hi)] at hb
    exact h.2 i a b ha hb
  · rw [List.getElem?_append_right hi] at ha
    rw [List.getElem?_append_right (by rw [← h.1]; exact hi), ← h.1] at hb
    obtain e : i - L.length = 0 := by
      rcases Nat.eq_zero_or_pos (i - L.length) with e | e
      · exact e
      · rw [List.getElem?_eq_none (by simp; omega)] at ha; cases ha
    rw [e] at ha hb
    cases ha; cases hb
    exact hy
theorem Pairs.push {R : Nat → Nat → Prop} {key key' : Nat → Nat} (hk : ∀ s t s' t', R s t → R s' t' → (key s = key s' ↔ key' t = key' t')) {L L' : List Nat} (h : Pairs R L L') {y y' : Nat} (hy : R y y') : Pairs R (pushK key L y) (pushK key' L' y') := by
  have hm := h.mem hk hy
  by_cases e : key y ∈ L.map key
  · rw [pushK_old e, pushK_old (hm.1 e)]; exact h
  · rw [pushK_new e, pushK_new (fun e2 => e (hm.2 e2))]; exact h.snoc hy
theorem Pairs.row {R : Nat → Nat → Prop} {key key' : Nat → Nat} {next next' : Nat → Nat → Option Nat} (hk : ∀ s t s' t', R s t → R s' t' → (key s = key s' ↔ key' t = key' t'))
    (hn : ∀ s t, R s t → ∀ b, b < 256 → (next s b = none ∧ next' t b = none) ∨ ∃ x y, next s b = some x ∧ next' t b = some y ∧ R x y) {L L' : List Nat} (h : Pairs R L L') {s t : Nat} (hs : R s t) : ∀ b, b ≤ 256 → Pairs R (rowK next key L s b) (rowK next' key' L' t b)
  | 0, _ => h
  | b + 1, hb => by
    have ih := Pairs.row hk hn h hs b (by omega)
    rcases hn s t hs b (by omega) with ⟨h1, h2⟩ | ⟨x, y, h1, h2, h3⟩
    · simp only [rowK, h1, h2]; exact ih
    · simp only [rowK, h1, h2]; exact ih.push hk h3
theorem Pairs.walk {R : Nat → Nat → Prop} {key key' : Nat → Nat} {next next' : Nat → Nat → Option Nat} (hk : ∀ s t s' t', R s t → R s' t' → (key s = key s' ↔ key' t = key' t'))
    (hn : ∀ s t, R s t → ∀ b, b < 256 → (next s b = none ∧ next' t b = none) ∨ ∃ x y, next s b = some x ∧ next' t b = some y ∧ R x y) {s0 t0 : Nat} (h0 : R s0 t0) : ∀ i, Pairs R (walkK next key s0 i) (walkK next' key' t0 i)
  | 0 => Pairs.snoc (L := []) (L' := []) ⟨rfl, fun i x y h => by simp at h⟩ h0
  | i + 1 => by
    have ih := Pairs.walk hk hn h0 i
    rcases Nat.lt_or_ge i (walkK next key s0 i).length with hi | hi
    · have hi' : i < (walkK next' key' t0 i).length := by rw [← ih.1]; exact hi
      have e1 := List.getElem?_eq_getElem hi
      have e2 := List.getElem?_eq_getElem hi'
      have hR := ih.2 i _ _ e1 e2
      rw [walkK, walkK, e1, e2]
      exact Pairs.row hk hn ih hR 256 (Nat.le_refl _)
    · have e1 := List.getElem?_eq_none hi
      have e2 := List.getElem?_eq_none (l := walkK next' key' t0 i) (i := i) (by rw [← ih.1]; exact hi)
      rw [walkK, walkK, e1, e2]
      exact ih
theorem Pairs.num {R : Nat → Nat → Prop} {key key' : Nat → Nat} (hk : ∀ s t s' t', R s t → R s' t' → (key s = key s' ↔ key' t = key' t')) : ∀ {L L' : List Nat}, Pairs R L L' → ∀ {y y' : Nat}, R y y' → numK key L y = numK key' L' y'
  | [], [], _, _, _, _ => rfl
  | [], _ :: _, h, _, _, _ => by have := h.1; simp at this
  | _ :: _, [], h, _, _, _ => by have := h.1; simp at this
  | a :: L, a' :: L', h, y, y', hy => by
    have ha : R a a' := h.2 0 a a' rfl rfl
    have ht : Pairs R L L' := ⟨by have := h.1; simpa using this, fun i x z hx hz => h.2 (i + 1) x z (by simpa using hx) (by simpa using hz)⟩
    have ih := Pairs.num hk ht hy
    have hq := hk y y' a a' hy ha
    unfold numK at ih ⊢
    rw [List.map_cons, List.map_cons, List.findIdx_cons, List.findIdx_cons, ih]
    have : (key y == key a) = (key' y' == key' a') := by
      rw [Bool.eq_iff_iff, beq_iff_eq, beq_iff_eq]; exact hq
    rw [this]
theorem walkK_end {next : Nat → Nat → Option Nat} {key : Nat → Nat} {s0 i : Nat} (h : (walkK next key s0 i).length ≤ i) : ∀ j, walkK next key s0 (i + j) = walkK next key s0 i
  | 0 => rfl
  | j + 1 => by
    have ih := walkK_end h j
    rw [show i + (j + 1) = (i + j) + 1 by omega, walkK, ih, List.getElem?_eq_none (by omega)]
theorem Pairs.ends {R : Nat → Nat → Prop} {key key' : Nat → Nat} {next next' : Nat → Nat → Option Nat} (hk : ∀ s t s' t', R s t → R s' t' → (key s = key s' ↔ key' t = key' t'))
    (hn : ∀ s t, R s t → ∀ b, b < 256 → (next s b = none ∧ next' t b = none) ∨ ∃ x y, next s b = some x ∧ next' t b = some y ∧ R x y) {s0 t0 : Nat} (h0 : R s0 t0) {i j : Nat} (hi : (walkK next key s0 i).length = i) (hj : (walkK next' key' t0 j).length = j) : i = j := by
  have h1 := (Pairs.walk hk hn h0 i).1
  have h2 := (Pairs.walk hk hn h0 j).1
  rcases Nat.lt_trichotomy i j with h | h | h
  · have := walkK_end (next := next) (key := key) (s0 := s0) (i := i) (by omega) (j - i)
    rw [show i + (j - i) = j by omega] at this
    rw [this] at h2; omega
  · exact h
  · have := walkK_end (next := next') (key := key') (s0 := t0) (i := j) (by omega) (i - j)
    rw [show j + (i - j) = i by omega] at this
    rw [this] at h1; omega
def leastK (acc : Nat → Nat) (next : Nat → Nat → Option Nat) (key : Nat → Nat) (L : List Nat) : List Sta := L.map fun s => ⟨acc s, arcsS fun b => match next s b with
  | none => -1
  | some y => (numK key L y : Nat)⟩
end Go.Proofs.Ytamgldhnfcikbaa
set_option maxRecDepth 100000
namespace Go.Proofs.Ytamgldhnfcikbaa
open Go.RowKit

theorem firstTo_app {A : List Arc3} (B : List Arc3) (hA : ∀ x ∈ A, 0 ≤ x.dest) (c : Nat) : firstTo (A ++ B) c = if firstTo A c < 0 then firstTo B c else firstTo A c := by
  induction A with
  | nil => rfl
  | cons a A ih =>
    have ih := ih fun x hx => hA x (List.mem_cons_of_mem _ hx)
    have ha := hA a (by simp)
    rw [List.cons_append, firstTo, firstTo]
    cases a.has c
    · simpa using ih
    · simp only [if_true]
      rw [if_neg (by omega)]
theorem first_one (a : Arc3) (c : Nat) : firstTo [a] c = if a.lo ≤ c ∧ c ≤ a.hi then a.dest else -1 := by
  rw [firstTo, firstTo]
  by_cases h : a.lo ≤ c ∧ c ≤ a.hi
  · have : a.has c = true := by simp [Arc3.has, h.1, h.2]
    rw [this, if_pos h]; rfl
  · have : a.has c = false := by
      simp only [Arc3.has, Bool.and_eq_false_iff, decide_eq_false_iff_not]
      omega
    rw [this, if_neg h]; rfl
theorem first_up (f : Nat → Int) : ∀ k c, firstTo (arcsUp f k) c = if c < k ∧ 0 ≤ f c then f c else -1
  | 0, c => by rw [if_neg (by omega)]; rfl
  | k + 1, c => by
    have ih := first_up f k
    have hl := arcsUp_last f k
    show firstTo (arcPut (arcsUp f k) k (f k)) c = _
    generalize arcsUp f k = A at *
    have hA : ∀ x ∈ A, 0 ≤ x.dest := fun x hx => (hl x hx).2.2
    unfold arcPut
    by_cases h0 : f k < 0
    · rw [if_pos h0, ih]
      by_cases hck : c = k
      · subst hck
        rw [if_neg (by omega), if_neg (by omega)]
      · by_cases h : c < k ∧ 0 ≤ f c
        · rw [if_pos h, if_pos ⟨by omega, h.2⟩]
        · rw [if_neg h, if_neg (by omega)]
    · rw [if_neg h0]
      have one : firstTo (A ++ [⟨k, k, f k⟩]) c = if c < k + 1 ∧ 0 ≤ f c then f c else -1 := by
        rw [firstTo_app _ hA, ih, first_one]
        by_cases hck : c = k
        · subst hck
          rw [if_neg (show ¬ (c < c ∧ 0 ≤ f c) by omega), if_pos (show (-1 : Int) < 0 by omega), if_pos (show c ≤ c ∧ c ≤ c from ⟨Nat.le_refl c, Nat.le_refl c⟩), if_pos ⟨by omega, by omega⟩]
        · rw [if_neg (show ¬ (k ≤ c ∧ c ≤ k) by omega)]
          by_cases h : c < k ∧ 0 ≤ f c
          · rw [if_pos h, if_neg (by omega), if_pos ⟨by omega, h.2⟩]
          · rw [if_neg h, if_pos (by omega), if_neg (by omega)]
      cases hg : A.getLast? with
      | none => exact one
      | some x =>
        by_cases hx : x.hi + 1 = k ∧ x.dest = f k
        · simp only [if_pos hx]
          obtain ⟨D, hD⟩ : ∃ D, A = D ++ [x] := by
            have hne : A ≠ [] := fun e => by rw [e] at hg; cases hg
            refine ⟨A.dropLast, ?_⟩
            have := List.dropLast_concat_getLast hne
            rw [List.getLast?_eq_some_getLast hne] at hg
            rw [Option.some.inj hg] at this
            exact this.symm
          have hxl := hl x (by rw [hD]; simp)
          have hdrop : A.dropLast = D := by rw [hD]; simp
          have hDA : ∀ y ∈ D, 0 ≤ y.dest := fun y hy => hA y (by rw [hD]; simp [hy])
          rw [hdrop, firstTo_app _ hDA, first_one]
          have ihc := ih c
          rw [hD, firstTo_app _ hDA, first_one] at ihc
          by_cases hd : firstTo D c < 0
          · rw [if_pos hd] at ihc ⊢
            by_cases hck : c = k
            · subst hck
              rw [if_pos (show x.lo ≤ c ∧ c ≤ c by omega), if_pos ⟨by omega, by omega⟩]
            · by_cases hin : x.lo ≤ c ∧ c ≤ x.hi
              · rw [if_pos hin] at ihc
                rw [if_pos (show x.lo ≤ c ∧ c ≤ k by omega), ← hx.2, ihc]
                by_cases h : c < k ∧ 0 ≤ f c
                · rw [if_pos h, if_pos ⟨by omega, h.2⟩]
                · rw [if_neg h, if_neg (by omega)]
              · rw [if_neg hin] at ihc
                rw [if_neg (show ¬ (x.lo ≤ c ∧ c ≤ k) by omega), ihc]
                by_cases h : c < k ∧ 0 ≤ f c
                · rw [if_pos h, if_pos ⟨by omega, h.2⟩]
                · rw [if_neg h, if_neg (by omega)]
          · rw [if_neg hd] at ihc ⊢
            rw [ihc]
            by_cases h : c < k ∧ 0 ≤ f c
            · rw [if_pos h, if_pos ⟨by omega, h.2⟩]
            · rw [if_neg h] at ihc; omega
        · simp only [if_neg hx]; exact one
theorem first_arcs (f : Nat → Int) {c : Nat} (hc : c < 256) : firstTo (arcsS f) c = if 0 ≤ f c then f c else -1 := by
  have := first_up f 256 c
  by_cases h : 0 ≤ f c
  · rw [if_pos ⟨hc, h⟩] at this; rw [if_pos h]; exact this
  · rw [if_neg (by omega)] at this; rw [if_neg h]; exact this
theorem arcsUp_congr {f g : Nat → Int} : ∀ k, (∀ b, b < k → f b = g b) → arcsUp f k = arcsUp g k
  | 0, _ => rfl
  | k + 1, h => by
    show arcPut (arcsUp f k) k (f k) = arcPut (arcsUp g k) k (g k)
    rw [arcsUp_congr k (fun b hb => h b (by omega)), h k (by omega)]
theorem arcsS_congr {f g : Nat → Int} (h : ∀ b, b < 256 → f b = g b) : arcsS f = arcsS g := arcsUp_congr 256 h

def toK (next : Nat → Nat → Option Nat) (key : Nat → Nat) (L : List Nat) (s b : Nat) : Int := match next s b with
  | none => -1
  | some y => (numK key L y : Nat)
theorem leastK_len (acc : Nat → Nat) (next : Nat → Nat → Option Nat) (key : Nat → Nat) (L : List Nat) : (leastK acc next key L).length = L.length := by unfold leastK; rw [List.length_map]
theorem leastK_at {acc : Nat → Nat} {next : Nat → Nat → Option Nat} {key : Nat → Nat} {L : List Nat} {i s : Nat} (h : L[i]? = some s) : (leastK acc next key L)[i]? = some ⟨acc s, arcsS (toK next key L s)⟩ := by
  unfold leastK
  rw [List.getElem?_map, h]; rfl
theorem leastK_next {acc : Nat → Nat} {next : Nat → Nat → Option Nat} {key : Nat → Nat} {L : List Nat} {i s b : Nat} (h : L[i]? = some s) (hb : b < 256) : nextS (leastK acc next key L) (i : Nat) b = toK next key L s b := by
  have h1 := leastK_at (acc := acc) (next := next) (key := key) h
  have hi : i < (leastK acc next key L).length := by
    rcases Nat.lt_or_ge i (leastK acc next key L).length with h2 | h2
    · exact h2
    · rw [List.getElem?_eq_none h2] at h1; cases h1
  rw [List.getElem?_eq_getElem hi] at h1
  unfold nextS
  rw [dif_pos ⟨by omega, by simpa using hi⟩]
  have h2 : (leastK acc next key L)[((i : Nat) : Int).toNat]'(by simpa using hi) = ⟨acc s, arcsS (toK next key L s)⟩ := by
    simpa using Option.some.inj h1
  rw [h2]
  show firstTo (arcsS (toK next key L s)) b = _
  rw [first_arcs _ hb]
  unfold toK
  cases next s b with
  | none => rfl
  | some y => rw [if_pos (by simp)]
theorem leastK_acc {acc : Nat → Nat} {next : Nat → Nat → Option Nat} {key : Nat → Nat} {L : List Nat} {i s : Nat} (h : L[i]? = some s) : accS (leastK acc next key L) (i : Nat) = acc s := by
  unfold accS
  rw [if_pos (by omega), Int.toNat_natCast, leastK_at h]; rfl
def ClosedK (next : Nat → Nat → Option Nat) (key : Nat → Nat) (L : List Nat) : Prop := ∀ s ∈ L, ∀ b, b < 256 → ∀ y, next s b = some y → key y ∈ L.map key
theorem rowK_mem {next : Nat → Nat → Option Nat} {key : Nat → Nat} {L : List Nat} {s : Nat} : ∀ k b y, b < k → next s b = some y → key y ∈ (rowK next key L s k).map key
  | 0, _, _, h, _ => by omega
  | k + 1, b, y, h, hy => by
    rw [rowK]
    by_cases e : b = k
    · subst e
      rw [hy]; exact pushK_mem key _ y
    · have ih := rowK_mem (key := key) (L := L) k b y (by omega) hy
      cases hn : next s k with
      | none => exact ih
      | some z =>
        obtain ⟨M, hM⟩ := pushK_ext key (rowK next key L s k) z
        show key y ∈ (pushK key (rowK next key L s k) z).map key
        rw [hM, List.map_append]
        exact List.mem_append_left _ ih
theorem walkK_step {next : Nat → Nat → Option Nat} {key : Nat → Nat} {s0 : Nat} (i : Nat) : ∃ M, walkK next key s0 (i + 1) = walkK next key s0 i ++ M := by
  rw [walkK]
  cases (walkK next key s0 i)[i]? with
  | none => exact ⟨[], (List.append_nil _).symm⟩
  | some s => exact rowK_ext next key _ s 256
theorem walkK_mem {next : Nat → Nat → Option Nat} {key : Nat → Nat} {s0 : Nat} : ∀ i j s, j < i → (walkK next key s0 i)[j]? = some s → (walkK next key s0 i).length ≥ i → ∀ b, b < 256 → ∀ y, next s b = some y → key y ∈ (walkK next key s0 i).map key
  | 0, _, _, h, _, _ => by omega
  | i + 1, j, s, h, hs, hl => by
    intro b hb y hy
    by_cases hlt : (walkK next key s0 i).length ≤ i
    · have := walkK_end hlt 1
      rw [this] at hl; omega
    · have hi : i < (walkK next key s0 i).length := by omega
      obtain ⟨M, hM⟩ := walkK_step (next := next) (key := key) (s0 := s0) i
      by_cases e : j = i
      · subst e
        rw [hM, List.getElem?_append_left hi] at hs
        rw [walkK, hs]
        exact rowK_mem 256 b y hb hy
      · rw [hM, List.getElem?_append_left (by omega)] at hs
        have := walkK_mem i j s (by omega) hs (by omega) b hb y hy
        rw [hM, List.map_append]
        exact List.mem_append_left _ this
theorem walkK_closed {next : Nat → Nat → Option Nat} {key : Nat → Nat} {s0 i : Nat} (h : (walkK next key s0 i).length = i) : ClosedK next key (walkK next key s0 i) := fun s hs b hb y hy => by
  obtain ⟨j, hj, e⟩ := List.mem_iff_getElem.1 hs
  exact walkK_mem i j s (by omega) (by rw [List.getElem?_eq_getElem hj, e]) (by omega) b hb y hy
theorem rowK_nodup {next : Nat → Nat → Option Nat} {key : Nat → Nat} {L : List Nat} (h : (L.map key).Nodup) (s : Nat) : ∀ k, ((rowK next key L s k).map key).Nodup
  | 0 => h
  | k + 1 => by
    have ih := rowK_nodup (next := next) h s k
    rw [rowK]
    cases next s k with
    | none => exact ih
    | some y => exact pushK_nodup ih y
theorem walkK_nodup (next : Nat → Nat → Option Nat) (key : Nat → Nat) (s0 : Nat) : ∀ i, ((walkK next key s0 i).map key).Nodup
  | 0 => by simp [walkK]
  | i + 1 => by
    have ih := walkK_nodup next key s0 i
    rw [walkK]
    cases (walkK next key s0 i)[i]? with
    | none => exact ih
    | some s => exact rowK_nodup ih s 256
theorem leastK_alike {m : List Sta} {acc : Nat → Nat} {next : Nat → Nat → Option Nat} {key : Nat → Nat} {L : List Nat} (ha : ∀ s ∈ L, acc s = accS m (s : Nat))
    (hnone : ∀ s ∈ L, ∀ b, b < 256 → next s b = none → DeadS m (nextS m (s : Nat) b)) (hsome : ∀ s ∈ L, ∀ b, b < 256 → ∀ y, next s b = some y → AlikeS m m (nextS m (s : Nat) b) y)
    (hkey : ∀ s ∈ L, ∀ t ∈ L, ∀ b, b < 256 → ∀ y, next t b = some y → key s = key y → AlikeS m m (s : Nat) (y : Nat)) (hc : ClosedK next key L) {i s : Nat} (h : L[i]? = some s) : AlikeS (leastK acc next key L) m (i : Nat) (s : Nat) := by
  have key2 : ∀ s' t' : Int, Apart (leastK acc next key L) m s' t' → (s' < 0 ∧ DeadS m t') ∨ (∃ i s : Nat, L[i]? = some s ∧ s' = i ∧ AlikeS m m (s : Nat) t') → False := by
    intro s' t' hA
    induction hA with
    | acc hne =>
      rintro (⟨h1, h2⟩ | ⟨i, s, hi, rfl, h2⟩)
      · exact hne ((accS_none (.inl h1)).trans (h2 [] (by simp)).symm)
      · exact hne ((leastK_acc hi).trans ((ha s (List.mem_of_getElem? hi)).trans h2.acc))
    | @step s' t' b hb _ ih =>
      rintro (⟨h1, h2⟩ | ⟨i, s, hi, rfl, h2⟩)
      · exact ih (.inl ⟨next_none h1 b, h2.next hb⟩)
      · have hs := List.mem_of_getElem? hi
        have hg := h2.next hb
        have hn := leastK_next (acc := acc) (next := next) (key := key) hi hb
        unfold toK at hn
        cases hy : next s b with
        | none =>
          rw [hy] at hn
          exact ih (.inl ⟨by rw [hn]; simp, hg.dead.1 (hnone s hs b hb hy)⟩)
        | some y =>
          rw [hy] at hn
          obtain ⟨z, hz, e⟩ := numK_at (hc s hs b hb y hy)
          have hzy := hkey z (List.mem_of_getElem? hz) s hs b hb y hy e
          exact ih (.inr ⟨numK key L y, z, hz, hn, hzy.trans ((hsome s hs b hb y hy).symm.trans hg)⟩)
  exact fun hA => key2 _ _ hA (.inr ⟨i, s, h, rfl, AlikeS.refl m s⟩)
end Go.Proofs.Ytamgldhnfcikbaa
set_option maxRecDepth 100000
namespace Go.Proofs.Ytamgldhnfcikbaa
open Go.RowKit

end Go.Proofs.Ytamgldhnfcikbaa
set_option maxRecDepth 100000
namespace Go.Proofs.Ytamgldhnfcikbaa
open Go.RowKit

def keptL (u : Nat → Bool) (n : Nat) : List Nat := (List.range n).filter u
def keptN (u : Nat → Bool) (s : Nat) : Nat := (keptL u s).length
theorem keptL_succ (u : Nat → Bool) (n : Nat) : keptL u (n + 1) = keptL u n ++ (if u n then [n] else []) := by
  unfold keptL
  rw [List.range_succ, List.filter_append, List.filter_cons]
  rfl
theorem keptL_at {u : Nat → Bool} {s : Nat} (h : u s = true) : ∀ n, s < n → (keptL u n)[keptN u s]? = some s
  | 0, hs => by omega
  | n + 1, hs => by
    rw [keptL_succ]
    by_cases e : s = n
    · subst e
      rw [List.getElem?_append_right (by show (keptL u s).length ≤ (keptL u s).length; exact Nat.le_refl _), if_pos h]
      show [s][(keptL u s).length - (keptL u s).length]? = some s
      rw [Nat.sub_self]; rfl
    · have ih := keptL_at h n (by omega)
      rw [List.getElem?_append_left]
      · exact ih
      · rcases Nat.lt_or_ge (keptN u s) (keptL u n).length with h1 | h1
        · exact h1
        · rw [List.getElem?_eq_none h1] at ih; cases ih
theorem keptN_lt {u : Nat → Bool} {s n : Nat} (h : u s = true) (hs : s < n) : keptN u s < (keptL u n).length := by
  have ih := keptL_at h n hs
  rcases Nat.lt_or_ge (keptN u s) (keptL u n).length with h1 | h1
  · exact h1
  · rw [List.getElem?_eq_none h1] at ih; cases ih
theorem keptL_mem {u : Nat → Bool} {s n : Nat} : s ∈ keptL u n ↔ s < n ∧ u s = true := by simp [keptL]
def keptD (u : Nat → Bool) (n : Nat) (d : Int) : Int := if 0 ≤ d ∧ d < n ∧ u d.toNat = true then (keptN u d.toNat : Nat) else -1
def trimA (u : Nat → Bool) (n : Nat) (l : List Arc3) : List Arc3 := (l.map fun a => ⟨a.lo, a.hi, keptD u n a.dest⟩).filter fun a => decide (a.dest ≠ -1)
def trimS (u : Nat → Bool) (m : List Sta) : List Sta := (keptL u m.length).map fun s => ⟨accS m (s : Nat), trimA u m.length (((m[s]?).map Sta.arcs).getD [])⟩
theorem keptD_neg {u : Nat → Bool} {n : Nat} {d : Int} (h : keptD u n d ≠ -1) : 0 ≤ d ∧ d < n ∧ u d.toNat = true := by
  unfold keptD at h
  split at h
  · assumption
  · exact absurd rfl h
theorem trimA_none {u : Nat → Bool} {n b : Nat} : ∀ {l : List Arc3}, (∀ a ∈ l, a.has b = false) → firstTo (trimA u n l) b = -1
  | [], _ => rfl
  | a :: l, h => by
    have ih := trimA_none (u := u) (n := n) (l := l) fun x hx => h x (List.mem_cons_of_mem _ hx)
    have ha := h a (by simp)
    unfold trimA at ih ⊢
    rw [List.map_cons, List.filter_cons]
    split
    · rw [firstTo]
      have : (⟨a.lo, a.hi, keptD u n a.dest⟩ : Arc3).has b = false := ha
      rw [this]; exact ih
    · exact ih
theorem trimA_first {u : Nat → Bool} {n b : Nat} : ∀ {l : List Arc3}, l.Pairwise (fun x y => x.hi < y.lo) → firstTo (trimA u n l) b = keptD u n (firstTo l b)
  | [], _ => by
    show (-1 : Int) = keptD u n (-1)
    unfold keptD
    rw [if_neg (by omega)]
  | a :: l, h => by
    rw [List.pairwise_cons] at h
    have ih := trimA_first (u := u) (n := n) (b := b) h.2
    rw [firstTo]
    cases ha : a.has b
    · have hb : (⟨a.lo, a.hi, keptD u n a.dest⟩ : Arc3).has b = false := ha
      unfold trimA at ih ⊢
      rw [List.map_cons, List.filter_cons]
      split
      · rw [firstTo, hb]; exact ih
      · exact ih
    · have hb : (⟨a.lo, a.hi, keptD u n a.dest⟩ : Arc3).has b = true := ha
      have hl : ∀ x ∈ l, x.has b = false := fun x hx => by
        have h1 := h.1 x hx
        simp only [Arc3.has, Bool.and_eq_true, decide_eq_true_eq] at ha
        simp only [Arc3.has, Bool.and_eq_false_iff, decide_eq_false_iff_not]
        omega
      have hn := trimA_none (u := u) (n := n) hl
      unfold trimA at hn ⊢
      rw [List.map_cons, List.filter_cons]
      simp only [if_true]
      by_cases e : keptD u n a.dest = -1
      · rw [if_neg (by simp [e]), hn, e]
      · rw [if_pos (by simp [e]), firstTo, hb]; rfl
theorem trimS_len (u : Nat → Bool) (m : List Sta) : (trimS u m).length = (keptL u m.length).length := by unfold trimS; rw [List.length_map]
theorem trimS_at {u : Nat → Bool} {m : List Sta} {s : Nat} (h : u s = true) (hs : s < m.length) : (trimS u m)[keptN u s]? = some ⟨accS m (s : Nat), trimA u m.length m[s].arcs⟩ := by
  unfold trimS
  rw [List.getElem?_map, keptL_at h _ hs]
  simp [hs]
theorem trimS_next {u : Nat → Bool} {m : List Sta} {s b : Nat} (h : u s = true) (hs : s < m.length) (hp : m[s].arcs.Pairwise (fun x y => x.hi < y.lo)) : nextS (trimS u m) (keptN u s : Nat) b = keptD u m.length (nextS m (s : Nat) b) := by
  have hl := keptN_lt h hs
  rw [← trimS_len] at hl
  have ha := trimS_at h hs
  rw [List.getElem?_eq_getElem hl] at ha
  unfold nextS
  rw [dif_pos ⟨by omega, by simpa using hl⟩, dif_pos ⟨by omega, by simpa using hs⟩]
  have h2 : (trimS u m)[((keptN u s : Nat) : Int).toNat]'(by simpa using hl) = ⟨accS m (s : Nat), trimA u m.length m[s].arcs⟩ := by simpa using Option.some.inj ha
  rw [h2]
  show firstTo (trimA u m.length m[s].arcs) b = _
  rw [trimA_first hp]
  simp
theorem trimS_acc {u : Nat → Bool} {m : List Sta} {s : Nat} (h : u s = true) (hs : s < m.length) : accS (trimS u m) (keptN u s : Nat) = accS m (s : Nat) := by
  have ha := trimS_at h hs
  rw [accS, if_pos (by omega), Int.toNat_natCast, ha]; rfl
theorem trimS_alike {u : Nat → Bool} {m : List Sta} (hp : ∀ s (hs : s < m.length), m[s].arcs.Pairwise (fun x y => x.hi < y.lo))
    (hr : ∀ s : Nat, s < m.length → ∀ b, b < 256 → nextS m s b < 0 ∨ ∃ y : Nat, y < m.length ∧ nextS m s b = y) (hu : ∀ s : Nat, s < m.length → u s = true → ∀ b, b < 256 → ∀ y : Nat, nextS m s b = y → u y = false → DeadS m (y : Nat))
    {s : Nat} (h : u s = true) (hs : s < m.length) : AlikeS (trimS u m) m (keptN u s : Nat) (s : Nat) := by
  have key : ∀ s' t' : Int, Apart (trimS u m) m s' t' → (s' < 0 ∧ DeadS m t') ∨ (∃ s : Nat, s < m.length ∧ u s = true ∧ s' = (keptN u s : Nat) ∧ t' = s) → False := by
    intro s' t' hA
    induction hA with
    | acc hne =>
      rintro (⟨h1, h2⟩ | ⟨s, hs, h, rfl, rfl⟩)
      · exact hne ((accS_none (.inl h1)).trans (h2 [] (by simp)).symm)
      · exact hne (trimS_acc h hs)
    | @step s' t' b hb _ ih =>
      rintro (⟨h1, h2⟩ | ⟨s, hs, h, rfl, rfl⟩)
      · exact ih (.inl ⟨next_none h1 b, h2.next hb⟩)
      · have hn := trimS_next (b := b) h hs (hp s hs)
        rcases hr s hs b hb with h1 | ⟨y, hy, h1⟩
        · refine ih (.inl ⟨?_, dead_below h1⟩)
          rw [hn]; unfold keptD
          rw [if_neg (by omega)]; omega
        · cases e : u y
          · refine ih (.inl ⟨?_, by rw [h1]; exact hu s hs h b hb y h1 e⟩)
            rw [hn, h1]; unfold keptD
            rw [if_neg (by simp [e])]; omega
          · refine ih (.inr ⟨y, hy, e, ?_, h1⟩)
            rw [hn, h1]; unfold keptD
            rw [if_pos ⟨by omega, by omega, by simpa using e⟩]; simp
  exact fun hA => key _ _ hA (.inr ⟨s, hs, h, rfl, rfl⟩)
end Go.Proofs.Ytamgldhnfcikbaa
set_option maxRecDepth 100000
namespace Go.Proofs.Ytamgldhnfcikbaa
open Go.RowKit

def tgtN (m : List Sta) (i b : Nat) : Nat := if nextS m (i : Nat) b < 0 then m.length else (nextS m (i : Nat) b).toNat
theorem dead_end (m : List Sta) : DeadS m (m.length : Nat) := fun bs hb => by
  cases bs with
  | nil => exact accS_none (.inr (Int.le_refl _))
  | cons b bs =>
    have h : nextS m (m.length : Nat) b < 0 := by
      unfold nextS
      rw [dif_neg (by simp)]; omega
    exact dead_none m bs _ h
theorem tgtN_alike (m : List Sta) (i b : Nat) : AlikeS m m (nextS m (i : Nat) b) (tgtN m i b : Nat) := by
  unfold tgtN
  by_cases h : nextS m (i : Nat) b < 0
  · rw [if_pos h]
    exact dead_alike (dead_below h) (dead_end m)
  · rw [if_neg h, Int.toNat_of_nonneg (by omega)]
    exact AlikeS.refl m _
theorem tgtN_le {m : List Sta} {i b : Nat} (h : nextS m (i : Nat) b < m.length) : tgtN m i b ≤ m.length := by
  unfold tgtN
  split
  · exact Nat.le_refl _
  · omega
def SoundD (m : List Sta) (D : Nat → Nat → Bool) : Prop := ∀ i k, i ≤ m.length → k ≤ m.length → D i k = true → Apart m m (i : Nat) (k : Nat)
def EndsD (m : List Sta) (D : Nat → Nat → Bool) : Prop := ∀ i k, i ≤ m.length → k ≤ m.length → accS m (i : Nat) ≠ accS m (k : Nat) → D i k = true
def ClD (m : List Sta) (D : Nat → Nat → Bool) (i k b : Nat) : Prop := D (tgtN m i b) (tgtN m k b) = true → D i k = true
def setD (D : Nat → Nat → Bool) (i k : Nat) : Nat → Nat → Bool := fun x y => if x = i ∧ y = k then true else D x y
theorem setD_here (D : Nat → Nat → Bool) (i k : Nat) : setD D i k i k = true := by unfold setD; rw [if_pos ⟨rfl, rfl⟩]
theorem setD_other {D : Nat → Nat → Bool} {i k x y : Nat} (h : ¬ (x = i ∧ y = k)) : setD D i k x y = D x y := by unfold setD; rw [if_neg h]
theorem setD_keeps {D : Nat → Nat → Bool} {i k x y : Nat} (h : D x y = true) : setD D i k x y = true := by
  unfold setD
  split
  · rfl
  · exact h
theorem SoundD.set {m : List Sta} {D : Nat → Nat → Bool} (h : SoundD m D) {i k b : Nat} (hb : b < 256) (hx : tgtN m i b ≤ m.length) (hy : tgtN m k b ≤ m.length) (hD : D (tgtN m i b) (tgtN m k b) = true) : SoundD m (setD D i k) := fun x y hx' hy' e => by
  by_cases hxy : x = i ∧ y = k
  · obtain ⟨rfl, rfl⟩ := hxy
    have h1 := h _ _ hx hy hD
    refine Apart.step hb (Classical.byContradiction fun hn => ?_)
    exact ((tgtN_alike m x b).symm.trans (AlikeS.trans hn (tgtN_alike m y b))) h1
  · rw [setD_other hxy] at e
    exact h x y hx' hy' e
theorem EndsD.set {m : List Sta} {D : Nat → Nat → Bool} (h : EndsD m D) (i k : Nat) : EndsD m (setD D i k) := fun x y hx hy e => setD_keeps (h x y hx hy e)
theorem apart_table {m : List Sta} {D : Nat → Nat → Bool} (hr : ∀ i : Nat, i ≤ m.length → ∀ b, b < 256 → nextS m (i : Nat) b < m.length) (he : EndsD m D) (hc : ∀ i k b, i ≤ m.length → k ≤ m.length → b < 256 → ClD m D i k b) {i k : Nat} (hi : i ≤ m.length) (hk : k ≤ m.length) (h : Apart m m (i : Nat) (k : Nat)) : D i k = true := by
  have key : ∀ s t : Int, Apart m m s t → ∀ i k : Nat, i ≤ m.length → k ≤ m.length → (s = i ∨ (s < 0 ∧ i = m.length)) → (t = k ∨ (t < 0 ∧ k = m.length)) → D i k = true := by
    intro s t hA
    induction hA with
    | @acc s t hne =>
      intro i k hi hk h1 h2
      have a1 : accS m s = accS m (i : Nat) := by
        rcases h1 with rfl | ⟨h1, rfl⟩
        · rfl
        · exact (accS_none (.inl h1)).trans (accS_none (.inr (Int.le_refl _))).symm
      have a2 : accS m t = accS m (k : Nat) := by
        rcases h2 with rfl | ⟨h2, rfl⟩
        · rfl
        · exact (accS_none (.inl h2)).trans (accS_none (.inr (Int.le_refl _))).symm
      exact he i k hi hk (by rw [← a1, ← a2]; exact hne)
    | @step s t b hb _ ih =>
      intro i k hi hk h1 h2
      have go : ∀ (s : Int) (i : Nat), i ≤ m.length → (s = i ∨ (s < 0 ∧ i = m.length)) → tgtN m i b ≤ m.length ∧ (nextS m s b = tgtN m i b ∨ (nextS m s b < 0 ∧ tgtN m i b = m.length)) := by
        intro s i hi h1
        refine ⟨tgtN_le (hr i hi b hb), ?_⟩
        rcases h1 with rfl | ⟨h1, rfl⟩
        · unfold tgtN
          by_cases h : nextS m (i : Nat) b < 0
          · exact .inr ⟨h, if_pos h⟩
          · rw [if_neg h]; exact .inl (by omega)
        · refine .inr ⟨next_none h1 b, ?_⟩
          have h : nextS m (m.length : Nat) b < 0 := by
            unfold nextS
            rw [dif_neg (by simp)]; omega
          unfold tgtN
          rw [if_pos h]
      obtain ⟨g1, g2⟩ := go s i hi h1
      obtain ⟨g3, g4⟩ := go t k hk h2
      exact hc i k b hi hk hb (ih _ _ g1 g3 g2 g4)
  exact key _ _ h i k hi hk (.inl rfl) (.inl rfl)
def rowF (N : Nat) (d : Nat → Bool) : Nat := ((List.range N).filter fun k => !d k).length
def cntF (N : Nat) (D : Nat → Nat → Bool) : Nat → Nat
  | 0 => 0
  | i + 1 => cntF N D i + rowF N (D i)
theorem rowF_succ (N : Nat) (d : Nat → Bool) : rowF (N + 1) d = rowF N d + if d N = true then 0 else 1 := by
  unfold rowF
  rw [List.range_succ, List.filter_append, List.length_append, List.filter_cons]
  cases d N <;> rfl
theorem rowF_set {d e : Nat → Bool} {k : Nat} (h : d k = false) (h1 : e k = true) (h2 : ∀ y, y ≠ k → e y = d y) : ∀ N, rowF N e + (if k < N then 1 else 0) = rowF N d
  | 0 => rfl
  | N + 1 => by
    have ih := rowF_set h h1 h2 N
    rw [rowF_succ, rowF_succ]
    by_cases e9 : N = k
    · subst e9
      rw [if_neg (Nat.lt_irrefl _)] at ih
      rw [if_pos (Nat.lt_succ_self _), if_pos h1, h, if_neg (by simp)]
      omega
    · rw [h2 N e9]
      by_cases hk : k < N
      · rw [if_pos hk] at ih; rw [if_pos (show k < N + 1 by omega)]; omega
      · rw [if_neg hk] at ih; rw [if_neg (show ¬ k < N + 1 by omega)]; omega
theorem cntF_set {D : Nat → Nat → Bool} {i k N : Nat} (h : D i k = false) (hk : k < N) : ∀ M, cntF N (setD D i k) M + (if i < M then 1 else 0) = cntF N D M
  | 0 => by simp [cntF]
  | M + 1 => by
    have ih := cntF_set h hk M
    rw [cntF, cntF]
    by_cases e : M = i
    · subst e
      rw [if_neg (Nat.lt_irrefl _)] at ih
      rw [if_pos (Nat.lt_succ_self _)]
      have h2 := rowF_set h (setD_here D M k) (fun y hy => setD_other (fun x => hy x.2)) N
      rw [if_pos hk] at h2
      omega
    · have h1 : setD D i k M = D M := by
        funext y; exact setD_other (fun x => e x.1)
      rw [h1]
      by_cases hi : i < M
      · rw [if_pos hi] at ih; rw [if_pos (by omega)]; omega
      · rw [if_neg hi] at ih; rw [if_neg (by omega)]; omega
def PassD (m : List Sta) (D0 D : Nat → Nat → Bool) (more : Bool) (N i k : Nat) : Prop :=
  (more = true → cntF N D N < cntF N D0 N) ∧ (more = false → cntF N D N = cntF N D0 N ∧ ∀ x y b, x ≤ m.length → y ≤ m.length → b < 256 → (x < i ∨ (x = i ∧ y < k)) → ClD m D x y b)
theorem PassD.start (m : List Sta) (D : Nat → Nat → Bool) (N : Nat) : PassD m D D false N 0 0 := ⟨fun h => (by cases h), fun _ => ⟨rfl, fun x y b _ _ _ h => (by omega)⟩⟩
theorem PassD.row {m : List Sta} {D0 D : Nat → Nat → Bool} {more : Bool} {N i : Nat} (h : PassD m D0 D more N i (m.length + 1)) : PassD m D0 D more N (i + 1) 0 := ⟨h.1, fun e => ⟨(h.2 e).1, fun x y b hx hy hb hp => (h.2 e).2 x y b hx hy hb (by omega)⟩⟩
theorem PassD.stay {m : List Sta} {D0 D : Nat → Nat → Bool} {more : Bool} {N i k : Nat} (h : PassD m D0 D more N i k) (hc : ∀ b, b < 256 → ClD m D i k b) : PassD m D0 D more N i (k + 1) := ⟨h.1, fun e => ⟨(h.2 e).1, fun x y b hx hy hb hp => by
  by_cases e2 : x = i ∧ y = k
  · obtain ⟨rfl, rfl⟩ := e2; exact hc b hb
  · exact (h.2 e).2 x y b hx hy hb (by omega)⟩⟩
theorem PassD.add {m : List Sta} {D0 D : Nat → Nat → Bool} {more : Bool} {N i k : Nat} (h : PassD m D0 D more N i k) (hD : D i k = false) (hi : i < N) (hk : k < N) : PassD m D0 (setD D i k) true N i (k + 1) := by
  refine ⟨fun _ => ?_, fun e => by cases e⟩
  have h1 := cntF_set hD hk N
  rw [if_pos hi] at h1
  cases more
  · have := (h.2 rfl).1; omega
  · have := h.1 rfl; omega
theorem PassD.done {m : List Sta} {D0 D : Nat → Nat → Bool} {N : Nat} (h : PassD m D0 D false N (m.length + 1) 0) : ∀ i k b, i ≤ m.length → k ≤ m.length → b < 256 → ClD m D i k b := fun i k b hi hk hb => (h.2 rfl).2 i k b hi hk hb (by omega)
end Go.Proofs.Ytamgldhnfcikbaa
set_option maxRecDepth 100000
namespace Go.Proofs.Ytamgldhnfcikbaa
open Go.RowKit

theorem infoBools : (Try.prog.info? 28).map (fun i => (i.zero, i.size, i.bytes)) = some (some (.slice none 0 0), 1, 24) := by kernel_rfl
def gridV (n r : Nat) (G : Nat → Nat) (i : Nat) : Value := if i < r then .slice (some ⟨G i, 0, none⟩) n n else .slice none 0 0
structure WG (w : World) (b n r : Nat) (G : Nat → Nat) (D : Nat → Nat → Bool) : Prop where
  blk : w.heap[b]? = some (.cells (Slices n (gridV n r G)) 28 (0, 0))
  row : ∀ i, i < r → Blk w (G i) n (D i)
  ne : ∀ i, i < r → G i ≠ b
  inj : ∀ i j, i < r → j < r → G i = G j → i = j
theorem WG.lt {w : World} {b n r : Nat} {G : Nat → Nat} {D : Nat → Nat → Bool} (h : WG w b n r G D) : b < w.heap.size := lt_of_block h.blk
theorem WG.new (w : World) (n : Nat) (G : Nat → Nat) (D : Nat → Nat → Bool) : WG (w.alloc (.cells (Slices n fun _ => .slice none 0 0) 28)) w.heap.size n 0 G D := by
  refine ⟨?_, fun i hi => by omega, fun i hi => by omega, fun i j hi => by omega⟩
  have : gridV n 0 G = fun _ => .slice none 0 0 := by funext i; unfold gridV; rw [if_neg (by omega)]
  rw [this]; exact heap_alloc_new w _
theorem WG.cell {w : World} {b n r i : Nat} {G : Nat → Nat} {D : Nat → Nat → Bool} (h : WG w b n r G D) (hi : i < r) (hn : i < n) : w.cell? ⟨b, i, none⟩ = some (.slice (some ⟨G i, 0, none⟩) n n) := by
  rw [cell_of_row w b i _ _ _ h.blk, slices_at _ hn]
  unfold gridV; rw [if_pos hi]
theorem WG.cell0 {w : World} {b n r i : Nat} {G : Nat → Nat} {D : Nat → Nat → Bool} (h : WG w b n r G D) (hi : ¬ i < r) (hn : i < n) : w.cell? ⟨b, i, none⟩ = some (.slice none 0 0) := by
  rw [cell_of_row w b i _ _ _ h.blk, slices_at _ hn]
  unfold gridV; rw [if_neg hi]
theorem WG.frozen {w : World} {b n r : Nat} {G : Nat → Nat} {D : Nat → Nat → Bool} (h : WG w b n r G D) (i : Nat) : w.frozen? ⟨b, i, none⟩ = false := frozen_row (j := i) h.blk
theorem WG.below {w w' : World} {b n r : Nat} {G : Nat → Nat} {D : Nat → Nat → Bool} (h : WG w b n r G D) (hb : Below w.heap.size w w') : WG w' b n r G D :=
  ⟨(hb.block b h.lt).trans h.blk, fun i hi => (h.row i hi).below hb, h.ne, h.inj⟩
theorem WG.drew {w : World} {b n r : Nat} {G : Nat → Nat} {D : Nat → Nat → Bool} (h : WG w b n r G D) : WG w.drew b n r G D := ⟨h.blk, h.row, h.ne, h.inj⟩
theorem WG.congr {w : World} {b n r : Nat} {G : Nat → Nat} {D D' : Nat → Nat → Bool} (h : WG w b n r G D) (hd : ∀ i k, i < r → k < n → D i k = D' i k) : WG w b n r G D' :=
  ⟨h.blk, fun i hi => (h.row i hi).congr fun k hk => hd i k hi hk, h.ne, h.inj⟩
theorem WG.add {w : World} {b n r : Nat} {G G' : Nat → Nat} {D D' : Nat → Nat → Bool} {g : Nat} (h : WG w b n r G D) (hg : Blk w g n (D' r)) (hne : g ≠ b) (hnew : ∀ i, i < r → G i ≠ g) (hG : G' r = g) (hG2 : ∀ i, i < r → G' i = G i) (hD : ∀ i, i < r → D' i = D i) : WG (w.setCell ⟨b, r, none⟩ (.slice (some ⟨g, 0, none⟩) n n)) b n (r + 1) G' D' := by
  refine ⟨?_, fun i hi => ?_, fun i hi => ?_, fun i j hi hj e => ?_⟩
  · rw [setCell_block h.blk]
    congr 1
    have : (Slices n (gridV n r G)).setIfInBounds r (.slice (some ⟨g, 0, none⟩) n n) = Slices n (gridV n (r + 1) G') := slices_set (by unfold gridV; rw [if_pos (by omega), hG]) fun i _ hir => by
      unfold gridV
      by_cases hlt : i < r
      · rw [if_pos hlt, if_pos (by omega), hG2 i hlt]
      · rw [if_neg hlt, if_neg (by omega)]
    rw [this]
  · by_cases e : i = r
    · subst e
      rw [hG]; exact hg.other hne _
    · have hlt : i < r := by omega
      rw [hG2 i hlt, hD i hlt]
      exact (h.row i hlt).other (h.ne i hlt) _
  · by_cases e : i = r
    · subst e; rw [hG]; exact hne
    · rw [hG2 i (by omega)]; exact h.ne i (by omega)
  · by_cases e1 : i = r <;> by_cases e2 : j = r
    · omega
    · subst e1; rw [hG, hG2 j (by omega)] at e
      exact absurd e.symm (hnew j (by omega))
    · subst e2; rw [hG, hG2 i (by omega)] at e
      exact absurd e (hnew i (by omega))
    · rw [hG2 i (by omega), hG2 j (by omega)] at e
      exact h.inj i j (by omega) (by omega) e
theorem WG.set {w : World} {b n r i k : Nat} {G : Nat → Nat} {D D' : Nat → Nat → Bool} {v : Bool} (h : WG w b n r G D) (hi : i < r) (hv : D' i k = v) (hD : ∀ x y, x < r → y < n → ¬ (x = i ∧ y = k) → D x y = D' x y) : WG (w.setCell ⟨G i, k, none⟩ (.bool v)) b n r G D' := by
  refine ⟨?_, fun x hx => ?_, h.ne, h.inj⟩
  · rw [Below.heap_setCell _ _ _ _ (fun e => h.ne i hi e.symm)]; exact h.blk
  · by_cases e : x = i
    · subst e
      exact (h.row x hx).set hv fun y hy hyk => hD x y hx hy (fun z => hyk z.2)
    · exact ((h.row x hx).other (fun e9 => e (h.inj x i hx hi e9)) _).congr fun y hy => hD x y hx hy (fun z => e z.1)
theorem WG.grid {w : World} {b n : Nat} {G : Nat → Nat} {D : Nat → Nat → Bool} (h : WG w b n n G D) : Grid w b n D := fun i hi => ⟨G i, h.cell hi hi, h.row i hi⟩
theorem WG.far {w : World} {b n r i : Nat} {G : Nat → Nat} {D : Nat → Nat → Bool} (h : WG w b n r G D) (hi : i < r) : G i < w.heap.size := (h.row i hi).lt
end Go.Proofs.Ytamgldhnfcikbaa
set_option maxRecDepth 100000
namespace Go.Proofs.Ytamgldhnfcikbaa
open List (getElem_toArray getElem_cons_succ getElem_cons_zero setIfInBounds_toArray set_cons_zero set_cons_succ)
open Go.RowKit

def rowE (E : Nat → Nat → Bool) (i k : Nat) : Nat → Nat → Bool := fun x y => if x < i then E x y else if x = i then (decide (y < k) && E x y) else false
def endE (m : List Sta) : Nat → Nat → Bool := fun x y => decide (accS m (x : Nat) ≠ accS m (y : Nat))
theorem rowE_set (E : Nat → Nat → Bool) (i k : Nat) : rowE E i (k + 1) i k = E i k := by unfold rowE; rw [if_neg (by omega), if_pos rfl]; simp
theorem rowE_else (E : Nat → Nat → Bool) (i k : Nat) {x y : Nat} (h : ¬ (x = i ∧ y = k)) : rowE E i k x y = rowE E i (k + 1) x y := by
  unfold rowE
  by_cases h1 : x < i
  · rw [if_pos h1, if_pos h1]
  · rw [if_neg h1, if_neg h1]
    by_cases h2 : x = i
    · rw [if_pos h2, if_pos h2]
      congr 1
      have : y ≠ k := fun e => h ⟨h2, e⟩
      by_cases h3 : y < k
      · rw [decide_eq_true h3, decide_eq_true (by omega)]
      · rw [decide_eq_false h3, decide_eq_false (by omega)]
    · rw [if_neg h2, if_neg h2]
theorem rowE_next (E : Nat → Nat → Bool) (i N : Nat) {x y : Nat} (hx : x < i + 1) (hy : y < N) : rowE E i N x y = rowE E (i + 1) 0 x y := by
  unfold rowE
  rw [if_pos hx]
  by_cases h1 : x < i
  · rw [if_pos h1]
  · rw [if_neg h1, if_pos (by omega), decide_eq_true hy, Bool.true_and]
theorem rowE_zero (E : Nat → Nat → Bool) (i y : Nat) : rowE E i 0 i y = false := by unfold rowE; rw [if_neg (by omega), if_pos rfl]; simp
theorem rowE_all (E : Nat → Nat → Bool) (N k : Nat) {x y : Nat} (hx : x < N) : rowE E N k x y = E x y := by unfold rowE; rw [if_pos hx]
theorem endE_sound (m : List Sta) : SoundD m (endE m) := fun i k _ _ h => .acc (by unfold endE at h; exact of_decide_eq_true h)
theorem endE_ends (m : List Sta) : EndsD m (endE m) := fun i k _ _ h => by unfold endE; exact decide_eq_true h
def FP (m : List Sta) (D D' : Nat → Nat → Bool) (c : Bool) (N i k y : Nat) : Prop := (D' i k = false ∧ PassD m D D' c N i k ∧ ∀ z, z < y → ClD m D' i k z) ∨ (D' i k = true ∧ PassD m D D' c N i (k + 1))
theorem FP.start {m : List Sta} {D D' : Nat → Nat → Bool} {c : Bool} {N i k : Nat} (h : PassD m D D' c N i k) : FP m D D' c N i k 0 := by
  cases e : D' i k
  · exact .inl ⟨e, h, fun z hz => by omega⟩
  · exact .inr ⟨e, h.stay fun b _ _ => e⟩
theorem FP.one {m : List Sta} {D D' : Nat → Nat → Bool} {c : Bool} {N i k y : Nat} (h : FP m D D' c N i k y) (e : D' i k = true) : PassD m D D' c N i (k + 1) := by
  rcases h with ⟨h1, _⟩ | ⟨_, h⟩
  · rw [h1] at e; cases e
  · exact h
theorem FP.done {m : List Sta} {D D' : Nat → Nat → Bool} {c : Bool} {N i k : Nat} (h : FP m D D' c N i k 256) : PassD m D D' c N i (k + 1) := by
  rcases h with ⟨_, h1, h2⟩ | ⟨_, h⟩
  · exact h1.stay h2
  · exact h
theorem FP.next {m : List Sta} {D D' : Nat → Nat → Bool} {c : Bool} {N i k y : Nat} (h : FP m D D' c N i k y) (e : D' i k = false) (hc : ClD m D' i k y) : FP m D D' c N i k (y + 1) := by
  rcases h with ⟨h0, h1, h2⟩ | ⟨h0, _⟩
  · refine .inl ⟨h0, h1, fun z hz => ?_⟩
    by_cases ez : z = y
    · subst ez; exact hc
    · exact h2 z (by omega)
  · rw [h0] at e; cases e
theorem FP.add {m : List Sta} {D D' : Nat → Nat → Bool} {c : Bool} {N i k y : Nat} (h : FP m D D' c N i k y) (e : D' i k = false) (hi : i < N) (hk : k < N) : FP m D (setD D' i k) true N i k (y + 1) := by
  rcases h with ⟨_, h1, _⟩ | ⟨h0, _⟩
  · exact .inr ⟨setD_here D' i k, h1.add e hi hk⟩
  · rw [h0] at e; cases e
def ApartR (m : List Sta) (w : World) (e : Ending) (w' : World) : Prop := ∃ b D, e = .returned (.slice (some ⟨b, 0, none⟩) (m.length + 1) (m.length + 1)) ∧ Hid (Grid w' b (m.length + 1) D) ∧ Hid (∀ i k, i ≤ m.length → k ≤ m.length → (D i k = true ↔ Apart m m (i : Nat) (k : Nat))) ∧ w.heap.size ≤ b ∧ Hid (Below w.heap.size w w')
set_option linter.unusedSimpArgs false in
set_option maxHeartbeats 8000000 in
theorem apart_any (v : Value) (m : List Sta) (w : World) (hv : MachAt w v m) (hl : ∀ s ∈ m, s.arcs.length < 9223372036854775808) (hm : Mays m) (hn : m.length < 100000) (hr : ∀ i : Nat, i ≤ m.length → ∀ b, b < 256 → nextS m (i : Nat) b < m.length) :
    Calls Try.prog 25 #[v] w (ApartR m w) := by
  have mixed : Try.prog.follows .mixedOrders = true := by kernel_rfl
  obtain ⟨b, hb⟩ : ∃ b, w.heap.size = b := ⟨_, rfl⟩
  obtain ⟨av, cv, rfl⟩ := hv.len
  have HAC := Lib.hid (fun (wr : World) (h : Below b w wr) (s : Int) => accept_any _ m s wr (hv.below (by rw [hb]; exact h)))
  have HNX := Lib.hid (fun (wr : World) (h : Below b w wr) (s : Int) (c : Nat) => rnext_any _ m s c wr (hv.below (by rw [hb]; exact h)) hl hm)
  have HR := Lib.hid hr
  clear hv hl hm hr
  obtain ⟨N, hN⟩ : ∃ N, m.length + 1 = N := ⟨_, rfl⟩
  have hNi : (m.length : Int) + 1 = N := by omega
  have hmk := make_slices Try.underlying46 infoBools (c := (N : Int)) (n := N) rfl (by omega)
  have HMB := Lib.hid (fun w : World => make_bools (c := (N : Int)) (n := N) rfl (by omega) w)
  obtain ⟨w1, hw1⟩ : ∃ w1, w.alloc (.cells (Slices N fun _ => .slice none 0 0) 28) = w1 := ⟨_, rfl⟩
  have HB1 : Hid (Below b w w1) := Lib.hid (by rw [← hw1, ← hb]; exact new_one w _)
  have HG1 : Hid (WG w1 b N 0 (fun _ => 0) (rowE (endE m) 0 0)) := Lib.hid (by rw [← hw1, ← hb]; exact WG.new w N _ _)
  have HFIN := Lib.hid (show ∀ w' G D, WG w' b N N G D → SoundD m D → EndsD m D → (∀ i k c, i ≤ m.length → k ≤ m.length → c < 256 → ClD m D i k c) → Below b w w' → ApartR m w (.returned (.slice (some ⟨b, 0, none⟩) N N)) w' from fun w' G D h1 h2 h3 h4 h5 => by
    subst hN
    exact ⟨b, D, rfl, Lib.hid h1.grid, Lib.hid fun i k hi hk => ⟨h2 i k hi hk, apart_table HR.out h3 h4 hi hk⟩, by omega, Lib.hid (by rw [hb]; exact h5)⟩)
  have HTL := Lib.hid (fun (i c : Nat) (hi : i < N) (hc : c < 256) => show tgtN m i c < N from by have := tgtN_le (HR.out i (by omega) c hc); omega)
  go_enter Try.func25, Try.ntmps25
  go_wp2
  clear hmk hw1
  go_loopw [5] (fun z wr => ∃ (i : Nat) (G : Nat → Nat), z = .int .i64 i ∧ i ≤ N ∧ Hid (WG wr b N i G (rowE (endE m) i 0)) ∧ Hid (∀ x, x < i → b < G x) ∧ Hid (Below b w wr)) (fun z _ => N - (intOf z).toNat)
  case atStart => exact ⟨0, _, rfl, Nat.zero_le _, HG1, Lib.hid (fun x hx => by omega), HB1⟩
  case round =>
    clear HB1 HG1
    obtain ⟨i, G, rfl, hi, HG, HGB, HB⟩ := hrel
    by_cases hlt : i < N
    · have hd : decide ((i : Int) ≤ m.length) = true := decide_eq_true (by omega)
      have hin : i ≤ m.length := by omega
      have hiN : (i : Int) < N := by omega
      have hmb := HMB.out wr
      have c0 := HG.out.cell0 (Nat.lt_irrefl i) hlt
      obtain ⟨g, hg⟩ : ∃ g, wr.heap.size = g := ⟨_, rfl⟩
      obtain ⟨w2, hw2⟩ : ∃ w2, wr.alloc (.cells (Places N fun _ => false) 4) = w2 := ⟨_, rfl⟩
      have hb2 : Below wr.heap.size wr w2 := by rw [← hw2]; exact new_one wr _
      have hbg : b < g := by rw [← hg]; exact HG.out.lt
      have HG2 := Lib.hid (HG.out.below hb2)
      have c2 : w2.cell? ⟨b, i, none⟩ = some (.slice none 0 0) := cell_below hb2 c0
      have f2 : w2.frozen? ⟨b, i, none⟩ = false := HG2.out.frozen i
      have HK2 : Hid (Blk w2 g N fun _ => false) := Lib.hid (by rw [← hw2, ← hg]; exact Blk.new wr N _)
      have HB2 := Lib.hid (HB.out.trans (hb2.mono (by omega)))
      have HG3 := Lib.hid (HG2.out.add (G' := fun x => if x = i then g else G x) (D' := rowE (endE m) i 0) (g := g) (HK2.out.congr fun y _ => (rowE_zero _ i y).symm) (by omega) (fun x hx e => by have := HG.out.far hx; omega) (if_pos rfl) (fun x hx => if_neg (by omega)) (fun x hx => rfl))
      have HB3 := Lib.hid (HB2.out.setCell (p := ⟨b, i, none⟩) (Nat.le_refl b) (.slice (some ⟨g, 0, none⟩) N N))
      have HGB3 : Hid (∀ x, x < i + 1 → b < (fun x => if x = i then g else G x) x) := Lib.hid (fun x hx => by
        by_cases e : x = i
        · show b < if x = i then g else G x
          rw [if_pos e]; exact hbg
        · show b < if x = i then g else G x
          rw [if_neg e]; exact HGB.out x (by omega))
      obtain ⟨G3, hG3⟩ : ∃ G3, (fun x => if x = i then g else G x) = G3 := ⟨_, rfl⟩
      rw [hG3] at HG3 HGB3
      clear HG HGB HB hb2 HG2 HK2 HB2 hG3 c0
      go_wp2
      clear hmb hw2 c2 f2
      go_loopw [6] (fun z wr => ∃ k : Nat, z = .int .i64 k ∧ k ≤ N ∧ Hid (WG wr b N (i + 1) G3 (rowE (endE m) i k)) ∧ Hid (Below b w wr)) (fun z _ => N - (intOf z).toNat)
      case atStart => exact ⟨0, rfl, Nat.zero_le _, HG3, HB3⟩
      case round =>
        clear HG3 HB3 hg hbg
        obtain ⟨k, rfl, hk, HG, HB⟩ := hrel
        by_cases hlk : k < N
        · have hd2 : decide ((k : Int) ≤ m.length) = true := decide_eq_true (by omega)
          have hkn : k ≤ m.length := by omega
          have hkN : (k : Int) < N := by omega
          have HSET := Lib.hid (HG.out.set (D' := rowE (endE m) i (k + 1)) (v := endE m i k) (Nat.lt_succ_self i) (rowE_set _ i k) (fun x y _ _ h => rowE_else _ i k h))
          have HSB := Lib.hid (HB.out.setCell (p := ⟨G3 i, k, none⟩) (Nat.le_of_lt (HGB3.out i (Nat.lt_succ_self i))) (.bool (endE m i k)))
          have d0 : wr.drew.cell? ⟨b, i, none⟩ = some (.slice (some ⟨G3 i, 0, none⟩) N N) := HG.out.cell (Nat.lt_succ_self i) hlt
          have HA1 := Lib.hid (HAC.out wr.drew HB.out.drew (i : Nat))
          have HA2 := Lib.hid (HAC.out wr.drew HB.out.drew (k : Nat))
          have hcv : wr.drew.cell? ⟨G3 i, k, none⟩ = some (.bool (rowE (endE m) i k i k)) := (HG.out.row i (Nat.lt_succ_self i)).cell hlk
          have hfz : wr.drew.frozen? ⟨G3 i, k, none⟩ = false := (HG.out.row i (Nat.lt_succ_self i)).frozen
          generalize rowE (endE m) i k i k = old at hcv
          have HEK := Lib.hid (show endE m i k = decide (accS m (i : Nat) ≠ accS m (k : Nat)) from rfl)
          go_upto_region 10 with fail
          have d1 := d0
          refine region_goes 13 14 rfl (fun W => W.cell? ⟨b, i, none⟩ = some (.slice (some ⟨G3 i, 0, none⟩) N N) ∧ W.cell? ⟨b, i, none⟩ = some (.slice (some ⟨G3 i, 0, none⟩) N N)) mixed ⟨d0, d1⟩ (fun hHeld => ?_)
          clear d0 d1
          refine goes_take (i := 0) (v := ?gv1) rfl (by kernel_rfl) (by kernel_rfl) (by kernel_rfl) (by kernel_rfl) (fun _ _ _ h => h) (Or.inl ⟨by rfl, ?gy1⟩) (by assumption) ?gr1
          case gy1 => (intro W9 hW9; obtain ⟨k0, k1⟩ := hW9; first | (go_simp; done) | (go_simp; with_reducible rfl))
          simp only [Act.put, getElem_toArray, getElem_cons_succ, getElem_cons_zero, setIfInBounds_toArray, set_cons_zero, set_cons_succ]
          refine goes_take (i := 1) (v := ?gv2) rfl (by kernel_rfl) (by kernel_rfl) (by kernel_rfl) (by kernel_rfl) (fun _ _ _ h => h) (Or.inl ⟨by rfl, ?gy2⟩) (by assumption) ?gr2
          case gy2 => (intro W9 hW9; obtain ⟨k0, k1⟩ := hW9; first | (go_simp; done) | (go_simp; with_reducible rfl))
          simp only [Act.put, getElem_toArray, getElem_cons_succ, getElem_cons_zero, setIfInBounds_toArray, set_cons_zero, set_cons_succ]
          refine goes_take (i := 2) (v := ?gv3) rfl (by kernel_rfl) (by kernel_rfl) (by kernel_rfl) (by kernel_rfl) (fun _ _ _ h => h) (Or.inl ⟨by rfl, ?gy3⟩) (by assumption) ?gr3
          case gy3 => (intro W9 hW9; obtain ⟨k0, k1⟩ := hW9; first | (go_simp; done) | (go_simp; with_reducible rfl))
          simp only [Act.put, getElem_toArray, getElem_cons_succ, getElem_cons_zero, setIfInBounds_toArray, set_cons_zero, set_cons_succ]
          refine goes_take (i := 3) (v := ?gv4) rfl (by kernel_rfl) (by kernel_rfl) (by kernel_rfl) (by kernel_rfl) (fun _ _ _ h => h) (Or.inl ⟨by rfl, ?gy4⟩) (by assumption) ?gr4
          case gy4 => (intro W9 hW9; obtain ⟨k0, k1⟩ := hW9; first | (go_simp; done) | (go_simp; with_reducible rfl))
          simp only [Act.put, getElem_toArray, getElem_cons_succ, getElem_cons_zero, setIfInBounds_toArray, set_cons_zero, set_cons_succ]
          refine goes_take (i := 4) (v := ?gv5) rfl (by kernel_rfl) (by kernel_rfl) (by kernel_rfl) (by kernel_rfl) (fun _ _ _ h => h) (Or.inl ⟨by rfl, ?gy5⟩) (by assumption) ?gr5
          case gy5 => (intro W9 hW9; obtain ⟨k0, k1⟩ := hW9; first | (go_simp; done) | (go_simp; with_reducible rfl))
          simp only [Act.put, getElem_toArray, getElem_cons_succ, getElem_cons_zero, setIfInBounds_toArray, set_cons_zero, set_cons_succ]
          refine goes_take (i := 5) (v := ?gv6) rfl (by kernel_rfl) (by kernel_rfl) (by kernel_rfl) (by kernel_rfl) (fun _ _ _ h => h) (Or.inl ⟨by rfl, ?gy6⟩) (by assumption) ?gr6
          case gy6 => (intro W9 hW9; obtain ⟨k0, k1⟩ := hW9; first | (go_simp; done) | (go_simp; with_reducible rfl))
          simp only [Act.put, getElem_toArray, getElem_cons_succ, getElem_cons_zero, setIfInBounds_toArray, set_cons_zero, set_cons_succ]
          refine goes_take (i := 6) (v := ?gv7) rfl (by kernel_rfl) (by kernel_rfl) (by kernel_rfl) (by kernel_rfl) (fun _ _ _ h => h) (Or.inl ⟨by rfl, ?gy7⟩) (by assumption) ?gr7
          case gy7 => (intro W9 hW9; obtain ⟨k0, k1⟩ := hW9; first | (go_simp; done) | (go_simp; with_reducible rfl))
          simp only [Act.put, getElem_toArray, getElem_cons_succ, getElem_cons_zero, setIfInBounds_toArray, set_cons_zero, set_cons_succ]
          refine goes_take (i := 8) (v := ?gv8) rfl (by kernel_rfl) (by kernel_rfl) (by kernel_rfl) (by kernel_rfl) (fun _ _ _ h => h) (Or.inl ⟨by rfl, ?gy8⟩) (by assumption) ?gr8
          case gy8 => (intro W9 hW9; obtain ⟨k0, k1⟩ := hW9; first | (go_simp; done) | (go_simp; with_reducible rfl))
          simp only [Act.put, getElem_toArray, getElem_cons_succ, getElem_cons_zero, setIfInBounds_toArray, set_cons_zero, set_cons_succ]
          refine goes_take (i := 9) (v := ?gv9) rfl (by kernel_rfl) (by kernel_rfl) (by kernel_rfl) (by kernel_rfl) (fun _ _ _ h => h) (Or.inl ⟨by rfl, ?gy9⟩) (by assumption) ?gr9
          case gy9 => (intro W9 hW9; obtain ⟨k0, k1⟩ := hW9; first | (go_simp; done) | (go_simp; with_reducible rfl))
          simp only [Act.put, getElem_toArray, getElem_cons_succ, getElem_cons_zero, setIfInBounds_toArray, set_cons_zero, set_cons_succ]
          refine goes_one (i := 7) (by kernel_rfl) rfl (fun K9 hK9 => ?_)
          go_simp
          with_reducible refine HA1.out.mono ?_
          rintro e w5 ⟨rfl, rfl⟩
          refine hK9.out _ _ (fun _ => hHeld) (fun hHeld => ?_)
          have hHeld := hHeld (by decide)
          clear hK9 K9
          refine goes_one (i := 10) (by kernel_rfl) rfl (fun K9 hK9 => ?_)
          go_simp
          with_reducible refine HA2.out.mono ?_
          rintro e w5 ⟨rfl, rfl⟩
          refine hK9.out _ _ (fun _ => hHeld) (fun hHeld => ?_)
          have hHeld := hHeld (by decide)
          clear hK9 K9
          refine goes_one (i := 11) (by kernel_rfl) rfl (fun K9 hK9 => ?_)
          go_simp
          refine hK9.out _ _ (fun _ => hHeld) (fun hHeld => ?_)
          have hHeld := hHeld (by decide)
          clear hK9 K9
          refine goes_one (i := 12) (by kernel_rfl) rfl (fun K9 hK9 => ?_)
          go_simp
          refine hK9.out _ _ (fun _ => hHeld) (fun hHeld => ?_)
          have hHeld := hHeld (by decide)
          clear hK9 K9
          refine goes_one (i := 13) (by kernel_rfl) rfl (fun K9 hK9 => ?_)
          go_simp
          refine hK9.out _ _ (fun h => absurd rfl h) (fun _ => ?_)
          clear hK9 K9 hHeld
          refine goes_done (by kernel_rfl) ?_ _
          rw [← acc_ne, ← HEK.out]
          go_wp2
          go_roundw
          case rel => exact ⟨k + 1, num_succ k, by omega, Lib.hid HSET.out.drew, Lib.hid HSB.out.drew⟩
          case measure => simp [intOf]; omega
        · obtain rfl : N = k := by omega
          have hkn : ¬ N ≤ m.length := by omega
          have hd2 : decide ((N : Int) ≤ m.length) = false := decide_eq_false (by omega)
          have HNX2 := Lib.hid (HG.out.congr (D' := rowE (endE m) (i + 1) 0) fun x y hx hy => rowE_next _ i N hx hy)
          go_wp2
          go_roundw
          case rel => exact ⟨i + 1, G3, num_succ i, by omega, HNX2, HGB3, HB⟩
          case measure => simp [intOf]; omega
    · obtain rfl : N = i := by omega
      have hin : ¬ N ≤ m.length := by omega
      have hd : decide ((N : Int) ≤ m.length) = false := decide_eq_false (by omega)
      have HG0 := Lib.hid (HG.out.congr (D' := endE m) fun x y hx hy => rowE_all _ N 0 hx)
      have HS0 := Lib.hid (endE_sound m)
      have HE0 := Lib.hid (endE_ends m)
      generalize endE m = E at *
      clear HG
      have HCL0 : Hid (true = false → ∀ i k y, i ≤ m.length → k ≤ m.length → y < 256 → ClD m E i k y) := Lib.hid (fun h => by cases h)
      go_wp2
      go_loopg [7] (cntF N E N + 1) (fun gk x wr => ∃ (c : Bool) (D1 : Nat → Nat → Bool), x = .bool c ∧ gk = cntF N D1 N + (if c then 1 else 0) ∧ Hid (WG wr b N N G D1) ∧ Hid (SoundD m D1) ∧ Hid (EndsD m D1) ∧ Hid (Below b w wr) ∧ Hid (c = false → ∀ i k y, i ≤ m.length → k ≤ m.length → y < 256 → ClD m D1 i k y))
      case atStart => exact ⟨true, E, rfl, rfl, HG0, HS0, HE0, HB, HCL0⟩
      case round =>
        clear HG0 HS0 HE0 HB HCL0
        obtain ⟨c, D, rfl, hgk, HG, HS, HE, HB, HC⟩ := hrel
        cases c
        · have HFI := Lib.hid (HFIN.out wr G D HG.out HS.out HE.out (HC.out rfl) HB.out)
          go_wp2
          exact bodyPost_ret (v := .slice (some ⟨b, 0, none⟩) N N) (by simp [results, Try.results25, go_sem, *]) rfl HFI.out
        · have HP := Lib.hid (PassD.start m D N)
          clear HC
          go_wp2
          go_loopw [7, 8] (fun x z wr => ∃ (i : Nat) (c : Bool) (D1 : Nat → Nat → Bool), z = .int .i64 i ∧ x = .bool c ∧ i ≤ N ∧ Hid (PassD m D D1 c N i 0) ∧ Hid (WG wr b N N G D1) ∧ Hid (SoundD m D1) ∧ Hid (EndsD m D1) ∧ Hid (Below b w wr)) (fun _ z _ => N - (intOf z).toNat)
          case atStart => exact ⟨0, false, D, rfl, rfl, Nat.zero_le _, HP, HG, HS, HE, HB⟩
          case round =>
            clear HP HG HS HE HB
            obtain ⟨i, c, D1, rfl, rfl, hi, HP, HG, HS, HE, HB⟩ := hrel
            by_cases hlt : i < N
            · have hd : decide ((i : Int) ≤ m.length) = true := decide_eq_true (by omega)
              have hin : i ≤ m.length := by omega
              have hiN : (i : Int) < N := by omega
              go_wp2
              go_loopw [7, 9] (fun x z wr => ∃ (k : Nat) (c : Bool) (D1 : Nat → Nat → Bool), z = .int .i64 k ∧ x = .bool c ∧ k ≤ N ∧ Hid (PassD m D D1 c N i k) ∧ Hid (WG wr b N N G D1) ∧ Hid (SoundD m D1) ∧ Hid (EndsD m D1) ∧ Hid (Below b w wr)) (fun _ z _ => N - (intOf z).toNat)
              case atStart => exact ⟨0, c, D1, rfl, rfl, Nat.zero_le _, HP, HG, HS, HE, HB⟩
              case round =>
                clear HP HG HS HE HB
                obtain ⟨k, c, D1, rfl, rfl, hk, HP, HG, HS, HE, HB⟩ := hrel
                by_cases hlk : k < N
                · have hd2 : decide ((k : Int) ≤ m.length) = true := decide_eq_true (by omega)
                  have hkn : k ≤ m.length := by omega
                  have hkN : (k : Int) < N := by omega
                  have HFP := Lib.hid (FP.start HP.out)
                  clear HP
                  go_wp2
                  go_loopw [7, 10] (fun x z wr => ∃ (y : Nat) (c : Bool) (D1 : Nat → Nat → Bool), z = .int .i64 y ∧ x = .bool c ∧ y ≤ 256 ∧ Hid (FP m D D1 c N i k y) ∧ Hid (WG wr b N N G D1) ∧ Hid (SoundD m D1) ∧ Hid (EndsD m D1) ∧ Hid (Below b w wr)) (fun _ z _ => 256 - (intOf z).toNat)
                  case atStart => exact ⟨0, c, D1, rfl, rfl, Nat.zero_le _, HFP, HG, HS, HE, HB⟩
                  case round =>
                    clear HFP HG HS HE HB
                    obtain ⟨y, c, D1, rfl, rfl, hy, HFP, HG, HS, HE, HB⟩ := hrel
                    have c1 := HG.out.cell hlt hlt
                    have c2 := (HG.out.row i hlt).cell hlk
                    have f2 : wr.frozen? ⟨G i, k, none⟩ = false := (HG.out.row i hlt).frozen
                    by_cases hlty : y < 256
                    · have hdy : decide ((y : Int) < 256) = true := decide_eq_true (by omega)
                      have hy256 : (y : Int) < 256 := by omega
                      cases hD : D1 i k
                      · rw [hD] at c2
                        have hwy : IntKind.u8.wrap (y : Int) = y := by rw [IntKind.wrap_u8]; omega
                        have HN1 := Lib.hid (HNX.out wr HB.out (i : Nat) y)
                        have HN2 := Lib.hid (HNX.out wr HB.out (k : Nat) y)
                        have hX0 := HTL.out i y hlt hlty
                        have hY0 := HTL.out k y hlk hlty
                        have HADD := Lib.hid (HFP.out.add (y := y) hD hlt hlk)
                        have HNXT := Lib.hid (fun (h : ClD m D1 i k y) => HFP.out.next (y := y) hD h)
                        have HSS := Lib.hid (fun (h : D1 (tgtN m i y) (tgtN m k y) = true) => HS.out.set (i := i) (k := k) (b := y) hlty (by omega) (by omega) h)
                        have HES := Lib.hid (HE.out.set i k)
                        have HGS := Lib.hid (HG.out.set (i := i) (k := k) (D' := setD D1 i k) (v := true) hlt (setD_here D1 i k) (fun x y _ _ h => (setD_other h).symm))
                        have HBS := Lib.hid (HB.out.setCell (p := ⟨G i, k, none⟩) (Nat.le_of_lt (HGB.out i hlt)) (.bool true))
                        have hCl : D1 (tgtN m i y) (tgtN m k y) = false → ClD m D1 i k y := fun h h2 => by rw [h] at h2; cases h2
                        have HCF := Lib.hid hCl
                        have c3 := HG.out.cell hX0 hX0
                        have c4 := (HG.out.row _ hX0).cell hY0
                        have hX : (nextS m (i : Nat) y < 0 ∧ tgtN m i y = m.length) ∨ nextS m (i : Nat) y = (tgtN m i y : Nat) := by
                          unfold tgtN
                          by_cases h : nextS m (i : Nat) y < 0
                          · exact .inl ⟨h, if_pos h⟩
                          · rw [if_neg h]; exact .inr (by omega)
                        have hY : (nextS m (k : Nat) y < 0 ∧ tgtN m k y = m.length) ∨ nextS m (k : Nat) y = (tgtN m k y : Nat) := by
                          unfold tgtN
                          by_cases h : nextS m (k : Nat) y < 0
                          · exact .inl ⟨h, if_pos h⟩
                          · rw [if_neg h]; exact .inr (by omega)
                        obtain ⟨sx, hsx⟩ : ∃ sx, nextS m (i : Nat) y = sx := ⟨_, rfl⟩
                        obtain ⟨sy, hsy⟩ : ∃ sy, nextS m (k : Nat) y = sy := ⟨_, rfl⟩
                        obtain ⟨X, hX1⟩ : ∃ X, tgtN m i y = X := ⟨_, rfl⟩
                        obtain ⟨Y, hY1⟩ : ∃ Y, tgtN m k y = Y := ⟨_, rfl⟩
                        rw [hsx] at HN1
                        rw [hsy] at HN2
                        rw [hX1, hY1] at c4 HSS HCF
                        rw [hX1] at c3 hX0
                        rw [hY1] at hY0
                        rw [hsx, hX1] at hX
                        rw [hsy, hY1] at hY
                        clear hsx hsy hX1 hY1 hCl
                        have hXi : (X : Int) < N := by omega
                        have hYi : (Y : Int) < N := by omega
                        have hCases : ∀ (mm : Nat), mm = m.length → True := fun _ _ => trivial
                        clear hCases
                        rcases hX with hx | hx
                        · rcases hY with hy2 | hy2
                          · have dx : decide (sx < 0) = true := decide_eq_true hx.1
                            obtain rfl := hx.2
                            have dy : decide (sy < 0) = true := decide_eq_true hy2.1
                            have hy3 := hy2.2
                            subst hy3
                            cases hXY : D1 m.length m.length
                            · rw [hXY] at c4
                              go_wp2_with (first | (go_at_call 27; (with_reducible refine HN1.out.mono ?_); rintro e w5 ⟨rfl, rfl⟩) | (go_at_call 27; (with_reducible refine HN2.out.mono ?_); rintro e w5 ⟨rfl, rfl⟩))
                              go_roundw
                              case rel => exact ⟨y + 1, c, D1, num_succ y, rfl, by omega, Lib.hid (HNXT.out (HCF.out hXY)), HG, HS, HE, HB⟩
                              case measure => simp [intOf]; omega
                            · rw [hXY] at c4
                              go_wp2_with (first | (go_at_call 27; (with_reducible refine HN1.out.mono ?_); rintro e w5 ⟨rfl, rfl⟩) | (go_at_call 27; (with_reducible refine HN2.out.mono ?_); rintro e w5 ⟨rfl, rfl⟩))
                              go_roundw
                              case rel => exact ⟨y + 1, true, setD D1 i k, num_succ y, rfl, by omega, HADD, HGS, Lib.hid (HSS.out hXY), HES, HBS⟩
                              case measure => simp [intOf]; omega
                          · have dx : decide (sx < 0) = true := decide_eq_true hx.1
                            obtain rfl := hx.2
                            obtain rfl := hy2
                            have dy : decide ((Y : Int) < 0) = false := decide_eq_false (by omega)
                            cases hXY : D1 m.length Y
                            · rw [hXY] at c4
                              go_wp2_with (first | (go_at_call 27; (with_reducible refine HN1.out.mono ?_); rintro e w5 ⟨rfl, rfl⟩) | (go_at_call 27; (with_reducible refine HN2.out.mono ?_); rintro e w5 ⟨rfl, rfl⟩))
                              go_roundw
                              case rel => exact ⟨y + 1, c, D1, num_succ y, rfl, by omega, Lib.hid (HNXT.out (HCF.out hXY)), HG, HS, HE, HB⟩
                              case measure => simp [intOf]; omega
                            · rw [hXY] at c4
                              go_wp2_with (first | (go_at_call 27; (with_reducible refine HN1.out.mono ?_); rintro e w5 ⟨rfl, rfl⟩) | (go_at_call 27; (with_reducible refine HN2.out.mono ?_); rintro e w5 ⟨rfl, rfl⟩))
                              go_roundw
                              case rel => exact ⟨y + 1, true, setD D1 i k, num_succ y, rfl, by omega, HADD, HGS, Lib.hid (HSS.out hXY), HES, HBS⟩
                              case measure => simp [intOf]; omega
                        · rcases hY with hy2 | hy2
                          · obtain rfl := hx
                            have dx : decide ((X : Int) < 0) = false := decide_eq_false (by omega)
                            have dy : decide (sy < 0) = true := decide_eq_true hy2.1
                            have hy3 := hy2.2
                            subst hy3
                            cases hXY : D1 X m.length
                            · rw [hXY] at c4
                              go_wp2_with (first | (go_at_call 27; (with_reducible refine HN1.out.mono ?_); rintro e w5 ⟨rfl, rfl⟩) | (go_at_call 27; (with_reducible refine HN2.out.mono ?_); rintro e w5 ⟨rfl, rfl⟩))
                              go_roundw
                              case rel => exact ⟨y + 1, c, D1, num_succ y, rfl, by omega, Lib.hid (HNXT.out (HCF.out hXY)), HG, HS, HE, HB⟩
                              case measure => simp [intOf]; omega
                            · rw [hXY] at c4
                              go_wp2_with (first | (go_at_call 27; (with_reducible refine HN1.out.mono ?_); rintro e w5 ⟨rfl, rfl⟩) | (go_at_call 27; (with_reducible refine HN2.out.mono ?_); rintro e w5 ⟨rfl, rfl⟩))
                              go_roundw
                              case rel => exact ⟨y + 1, true, setD D1 i k, num_succ y, rfl, by omega, HADD, HGS, Lib.hid (HSS.out hXY), HES, HBS⟩
                              case measure => simp [intOf]; omega
                          · obtain rfl := hx
                            have dx : decide ((X : Int) < 0) = false := decide_eq_false (by omega)
                            obtain rfl := hy2
                            have dy : decide ((Y : Int) < 0) = false := decide_eq_false (by omega)
                            cases hXY : D1 X Y
                            · rw [hXY] at c4
                              go_wp2_with (first | (go_at_call 27; (with_reducible refine HN1.out.mono ?_); rintro e w5 ⟨rfl, rfl⟩) | (go_at_call 27; (with_reducible refine HN2.out.mono ?_); rintro e w5 ⟨rfl, rfl⟩))
                              go_roundw
                              case rel => exact ⟨y + 1, c, D1, num_succ y, rfl, by omega, Lib.hid (HNXT.out (HCF.out hXY)), HG, HS, HE, HB⟩
                              case measure => simp [intOf]; omega
                            · rw [hXY] at c4
                              go_wp2_with (first | (go_at_call 27; (with_reducible refine HN1.out.mono ?_); rintro e w5 ⟨rfl, rfl⟩) | (go_at_call 27; (with_reducible refine HN2.out.mono ?_); rintro e w5 ⟨rfl, rfl⟩))
                              go_roundw
                              case rel => exact ⟨y + 1, true, setD D1 i k, num_succ y, rfl, by omega, HADD, HGS, Lib.hid (HSS.out hXY), HES, HBS⟩
                              case measure => simp [intOf]; omega
                      · rw [hD] at c2
                        have HPN := Lib.hid (HFP.out.one hD)
                        go_wp2
                        go_roundw
                        case rel => exact ⟨k + 1, c, D1, num_succ k, rfl, by omega, HPN, HG, HS, HE, HB⟩
                        case measure => simp [intOf]; omega
                    · obtain rfl : y = 256 := by omega
                      have hdy : decide (((256 : Nat) : Int) < 256) = false := by simp
                      have HPN := Lib.hid (HFP.out.done)
                      go_wp2
                      go_roundw
                      case rel => exact ⟨k + 1, c, D1, num_succ k, rfl, by omega, HPN, HG, HS, HE, HB⟩
                      case measure => simp [intOf]; omega
                · obtain rfl : N = k := by omega
                  have hd2 : decide ((N : Int) ≤ m.length) = false := decide_eq_false (by omega)
                  have hkn : ¬ N ≤ m.length := by omega
                  have HPR := Lib.hid (show PassD m D D1 c N (i + 1) 0 from PassD.row (by rw [hN]; exact HP.out))
                  go_wp2
                  go_roundw
                  case rel => exact ⟨i + 1, c, D1, num_succ i, rfl, by omega, HPR, HG, HS, HE, HB⟩
                  case measure => simp [intOf]; omega
            · obtain rfl : N = i := by omega
              have hd : decide ((N : Int) ≤ m.length) = false := decide_eq_false (by omega)
              have hin : ¬ N ≤ m.length := by omega
              have HDN := Lib.hid (show c = false → ∀ i k y, i ≤ m.length → k ≤ m.length → y < 256 → ClD m D1 i k y from fun e => by
                have h := HP.out
                rw [e] at h
                exact PassD.done (by rw [hN]; exact h))
              have HCT := Lib.hid HP.out.1
              have HCF := Lib.hid (fun e => (HP.out.2 e).1)
              go_wp2
              go_roundg (cntF N D1 N + (if c then 1 else 0))
              case measure =>
                cases c
                · have := HCF.out rfl
                  simp at hgk ⊢; omega
                · have := HCT.out rfl
                  simp at hgk ⊢; omega
              case rel => exact ⟨c, D1, rfl, rfl, HG, HS, HE, HB, HDN⟩
end Go.Proofs.Ytamgldhnfcikbaa
