/- Texts that a proof rests on: The machine of a plain pattern goes through just the texts that the pattern matches. | The reference's Whole. | The walk of the law NfaMeans. -/
import Derived.Test.YtpfhhdiipedklaaDoorK42
import Derived.Test.YtpfhhdiipedklaaDoorK26
import Derived.Test.YtpfhhdiipedklaaDoorK15
import Derived.Test.YtpfhhdiipedklaaDoorK43
set_option maxRecDepth 100000
namespace Go.Proofs.YtpfhhdiipedklaaDoor
open Go.RowKit

/-- A byte of a set stands there. -/
def byteAt (s : ByteArray) (c : BitVec 256) (i : Int) : Prop := 0 ≤ i ∧ ∃ h : i.toNat < s.size, c.getLsbD s[i.toNat].toNat = true
/-- States with places, such that no step leads out of them. -/
def ClosedM (s : ByteArray) (m : Mach) (X : Nat → Int → Prop) : Prop := (∀ e ∈ m.e, ∀ i, X e.1 i → X e.2 i) ∧ (∀ a ∈ m.a, ∀ i, X a.1 i → byteAt s a.2.2 i → X a.2.1 (i + 1))
theorem ClosedM.eps {s : ByteArray} {m : Mach} {X : Nat → Int → Prop} (h : ClosedM s m X) {x y : Nat} (hxy : ∀ i, X x i → X y i) : ClosedM s (m.eps x y) X :=
  ⟨fun e he => by
    rcases List.mem_append.1 he with he | he
    · exact h.1 e he
    · rw [List.mem_singleton] at he; subst he; exact hxy, h.2⟩
theorem ClosedM.of_eps {s : ByteArray} {m : Mach} {X : Nat → Int → Prop} {x y : Nat} (h : ClosedM s (m.eps x y) X) : ClosedM s m X ∧ ∀ i, X x i → X y i :=
  ⟨⟨fun e he => h.1 e (List.mem_append_left _ he), h.2⟩, fun i hi => h.1 (x, y) (List.mem_append_right _ (by simp)) i hi⟩
theorem ClosedM.agree {s : ByteArray} {m : Mach} {X Y : Nat → Int → Prop} (h : ClosedM s m X) (hok : m.ok) (hY : ∀ q, q < m.n → ∀ i, Y q i ↔ X q i) : ClosedM s m Y :=
  ⟨fun e he i h1 => (hY _ (hok.e e he).2 i).2 (h.1 e he i ((hY _ (hok.e e he).1 i).1 h1)), fun a ha i h1 hb => (hY _ (hok.a a ha).2 _).2 (h.2 a ha i ((hY _ (hok.a a ha).1 i).1 h1) hb)⟩
theorem ClosedM.two {s : ByteArray} {m : Mach} {X : Nat → Int → Prop} : ClosedM s m.two X ↔ ClosedM s m X := Iff.rfl
/-- What a fragment leads to is no more than the relation tells. -/
def SoundF (s : ByteArray) (f : Mach → Mach) (R : Int → Int → Prop) : Prop := ∀ m, m.ok → ∀ X, ClosedM s m X → ∀ I : Int → Prop, ∃ Y, (∀ q, q < m.n → ∀ i, Y q i ↔ X q i) ∧ ClosedM s (f m) Y ∧ (∀ i, I i → Y m.n i) ∧ ∀ j, Y (m.n + 1) j → ∃ i, I i ∧ R i j
/-- All that the relation tells is led to. -/
def CompF (s : ByteArray) (f : Mach → Mach) (R : Int → Int → Prop) : Prop := ∀ m X, ClosedM s (f m) X → ClosedM s m X ∧ ∀ i j, X m.n i → R i j → X (m.n + 1) j
theorem behind_sound {s : ByteArray} {f : Mach → Mach} {R : Int → Int → Prop} (hf : SoundF s f R) (_ : Frag f) {m : Mach} {x : Nat} (hok : m.ok) (hx : x < m.n) {X : Nat → Int → Prop} (hX : ClosedM s m X) :
    ∃ Y, (∀ q, q < m.n → ∀ i, Y q i ↔ X q i) ∧ ClosedM s (behind f (m, x)).1 Y ∧ ∀ j, Y (behind f (m, x)).2 j → ∃ i, X x i ∧ R i j := by
  obtain ⟨Y, h1, h2, h3, h4⟩ := hf m hok X hX (X x)
  exact ⟨Y, h1, h2.eps fun i hi => h3 i ((h1 x hx i).1 hi), h4⟩
theorem behind_comp {s : ByteArray} {f : Mach → Mach} {R : Int → Int → Prop} (hf : CompF s f R) {m : Mach} {x : Nat} {X : Nat → Int → Prop} (hX : ClosedM s (behind f (m, x)).1 X) : ClosedM s m X ∧ ∀ i j, X x i → R i j → X (behind f (m, x)).2 j := by
  obtain ⟨h1, h2⟩ := ClosedM.of_eps hX
  obtain ⟨h3, h4⟩ := hf m X h1
  exact ⟨h3, fun i j hi hr => h4 i j (h2 i hi) hr⟩
theorem times_sound {s : ByteArray} {f : Mach → Mach} {R : Int → Int → Prop} (hf : SoundF s f R) (hg : Frag f) : ∀ (k : Nat) (m : Mach) (x : Nat) (X : Nat → Int → Prop), m.ok → x < m.n → ClosedM s m X →
    ∃ Y, (∀ q, q < m.n → ∀ i, Y q i ↔ X q i) ∧ ClosedM s (timesB f k (m, x)).1 Y ∧ ∀ j, Y (timesB f k (m, x)).2 j → ∃ i, X x i ∧ Pw R k i j
  | 0, m, x, X, _, _, hX => ⟨X, fun _ _ _ => Iff.rfl, hX, fun j hj => ⟨j, hj, rfl⟩⟩
  | k + 1, m, x, X, hok, hx, hX => by
    obtain ⟨Y, h1, h2, h3⟩ := behind_sound hf hg hok hx hX
    have hb := behind_step hg hx
    obtain ⟨Z, g1, g2, g3⟩ := times_sound hf hg k (behind f (m, x)).1 (behind f (m, x)).2 Y (hb.1.ok hok) hb.2 h2
    refine ⟨Z, fun q hq i => (g1 q (Nat.lt_of_lt_of_le hq hb.1.n) i).trans (h1 q hq i), g2, fun j hj => ?_⟩
    obtain ⟨i, hi, hr⟩ := g3 j hj
    obtain ⟨i0, h4, h5⟩ := h3 i hi
    exact ⟨i0, h4, i, h5, hr⟩
theorem times_comp {s : ByteArray} {f : Mach → Mach} {R : Int → Int → Prop} (hf : CompF s f R) : ∀ (k : Nat) (m : Mach) (x : Nat) (X : Nat → Int → Prop), ClosedM s (timesB f k (m, x)).1 X → ClosedM s m X ∧ ∀ i j, X x i → Pw R k i j → X (timesB f k (m, x)).2 j
  | 0, m, x, X, hX => ⟨hX, fun i j hi hr => by rw [Pw] at hr; subst hr; exact hi⟩
  | k + 1, m, x, X, hX => by
    obtain ⟨g1, g2⟩ := times_comp hf k (behind f (m, x)).1 (behind f (m, x)).2 X hX
    obtain ⟨h1, h2⟩ := behind_comp hf g1
    exact ⟨h1, fun i j hi ⟨c, hr, hp⟩ => g2 c j (h2 i c hi hr) hp⟩
theorem cat_sound {s : ByteArray} : ∀ {l : List Pat}, (∀ p ∈ l, SoundF s (bld p) (p.M s) ∧ Frag (bld p)) → ∀ (m : Mach) (x : Nat) (X : Nat → Int → Prop), m.ok → x < m.n → ClosedM s m X →
    ∃ Y, (∀ q, q < m.n → ∀ i, Y q i ↔ X q i) ∧ ClosedM s (catB l (m, x)).1 Y ∧ ∀ j, Y (catB l (m, x)).2 j → ∃ i, X x i ∧ rowM s l i j
  | [], _, m, x, X, _, _, hX => by rw [catB]; exact ⟨X, fun _ _ _ => Iff.rfl, hX, fun j hj => ⟨j, hj, (rowM_nil _ _ _).2 rfl⟩⟩
  | p :: ps, H, m, x, X, hok, hx, hX => by
    rw [catB]
    obtain ⟨Y, h1, h2, h3⟩ := behind_sound (H p (by simp)).1 (H p (by simp)).2 hok hx hX
    have hb := behind_step (H p (by simp)).2 hx
    obtain ⟨Z, g1, g2, g3⟩ := cat_sound (l := ps) (fun q hq => H q (List.mem_cons_of_mem _ hq)) (behind (bld p) (m, x)).1 (behind (bld p) (m, x)).2 Y (hb.1.ok hok) hb.2 h2
    refine ⟨Z, fun q hq i => (g1 q (Nat.lt_of_lt_of_le hq hb.1.n) i).trans (h1 q hq i), g2, fun j hj => ?_⟩
    obtain ⟨i, hi, hr⟩ := g3 j hj
    obtain ⟨i0, h4, h5⟩ := h3 i hi
    exact ⟨i0, h4, (rowM_cons _ _ _ _ _).2 ⟨i, h5, hr⟩⟩
theorem cat_comp {s : ByteArray} : ∀ {l : List Pat}, (∀ p ∈ l, CompF s (bld p) (p.M s)) → ∀ (m : Mach) (x : Nat) (X : Nat → Int → Prop), ClosedM s (catB l (m, x)).1 X → ClosedM s m X ∧ ∀ i j, X x i → rowM s l i j → X (catB l (m, x)).2 j
  | [], _, m, x, X, hX => by rw [catB] at hX ⊢; exact ⟨hX, fun i j hi hr => by rw [rowM_nil] at hr; subst hr; exact hi⟩
  | p :: ps, H, m, x, X, hX => by
    rw [catB] at hX ⊢
    obtain ⟨g1, g2⟩ := cat_comp (l := ps) (fun q hq => H q (List.mem_cons_of_mem _ hq)) _ _ X hX
    obtain ⟨h1, h2⟩ := behind_comp (H p (by simp)) g1
    refine ⟨h1, fun i j hi hr => ?_⟩
    obtain ⟨c, h3, h4⟩ := (rowM_cons _ _ _ _ _).1 hr
    exact g2 c j (h2 i c hi h3) h4
theorem alt_sound {s : ByteArray} : ∀ {l : List Pat}, (∀ p ∈ l, SoundF s (bld p) (p.M s) ∧ Frag (bld p)) → ∀ (m : Mach) (b : Nat) (X : Nat → Int → Prop), m.ok → b + 1 < m.n → ClosedM s m X → (∀ p ∈ l, ∀ i j, X b i → p.M s i j → X (b + 1) j) →
    ∃ Y, (∀ q, q < m.n → ∀ i, Y q i ↔ X q i) ∧ ClosedM s (altB l b m) Y
  | [], _, m, b, X, _, _, hX, _ => by rw [altB]; exact ⟨X, fun _ _ _ => Iff.rfl, hX⟩
  | p :: ps, H, m, b, X, hok, hb, hX, hE => by
    rw [altB]
    obtain ⟨Y, h1, h2, h3, h4⟩ := (H p (by simp)).1 m hok X hX (X b)
    have hst := (H p (by simp)).2 m
    have hn : m.n + 2 ≤ (bld p m).n := hst.2
    have hok2 : ((((bld p m).eps b m.n).eps (m.n + 1) (b + 1))).ok := ((hst.1.ok hok).ok_eps (by omega) (by omega)).ok_eps (by show m.n + 1 < (bld p m).n; omega) (by show b + 1 < (bld p m).n; omega)
    have hc : ClosedM s (((bld p m).eps b m.n).eps (m.n + 1) (b + 1)) Y := (h2.eps fun i hi => h3 i ((h1 b (by omega) i).1 hi)).eps fun j hj => by
      obtain ⟨i, hi, hr⟩ := h4 j hj
      exact (h1 (b + 1) hb j).2 (hE p (by simp) i j hi hr)
    obtain ⟨Z, g1, g2⟩ := alt_sound (l := ps) (fun q hq => H q (List.mem_cons_of_mem _ hq)) _ b Y hok2 (by show b + 1 < (bld p m).n; omega) hc (fun q hq i j hi hr => (h1 (b + 1) hb j).2 (hE q (List.mem_cons_of_mem _ hq) i j ((h1 b (by omega) i).1 hi) hr))
    exact ⟨Z, fun q hq i => (g1 q (by show q < (bld p m).n; omega) i).trans (h1 q hq i), g2⟩
theorem alt_comp {s : ByteArray} : ∀ {l : List Pat}, (∀ p ∈ l, CompF s (bld p) (p.M s)) → ∀ (m : Mach) (b : Nat) (X : Nat → Int → Prop), ClosedM s (altB l b m) X → ClosedM s m X ∧ ∀ i j, X b i → altM s l i j → X (b + 1) j
  | [], _, m, b, X, hX => by rw [altB] at hX; exact ⟨hX, fun i j _ hr => by rw [altM] at hr; exact hr.elim⟩
  | p :: ps, H, m, b, X, hX => by
    rw [altB] at hX
    obtain ⟨g1, g2⟩ := alt_comp (l := ps) (fun q hq => H q (List.mem_cons_of_mem _ hq)) _ b X hX
    obtain ⟨h1, h2⟩ := ClosedM.of_eps g1
    obtain ⟨h3, h4⟩ := ClosedM.of_eps h1
    obtain ⟨h5, h6⟩ := H p (by simp) m X h3
    refine ⟨h5, fun i j hi hr => ?_⟩
    rw [altM] at hr
    rcases hr with hr | hr
    · exact h2 j (h6 i j (h4 i hi) hr)
    · exact g2 i j hi hr
theorem opt_sound {s : ByteArray} {f : Mach → Mach} {R : Int → Int → Prop} (hf : SoundF s f R) (hg : Frag f) {e : Nat} : ∀ (k : Nat) (m : Mach) (x : Nat) (X : Nat → Int → Prop), m.ok → x < m.n → e < m.n → ClosedM s m X → (∀ t, t ≤ k → ∀ i j, X x i → Pw R t i j → X e j) →
    ∃ Y, (∀ q, q < m.n → ∀ i, Y q i ↔ X q i) ∧ ClosedM s ((optB f e k (m, x)).1.eps (optB f e k (m, x)).2 e) Y
  | 0, m, x, X, _, _, _, hX, hE => ⟨X, fun _ _ _ => Iff.rfl, hX.eps fun i hi => hE 0 (Nat.le_refl _) i i hi rfl⟩
  | k + 1, m, x, X, hok, hx, he, hX, hE => by
    have hX1 : ClosedM s (m.eps x e) X := hX.eps fun i hi => hE 0 (Nat.zero_le _) i i hi rfl
    obtain ⟨Y, h1, h2, h3⟩ := behind_sound hf hg (hok.ok_eps hx he) (show x < (m.eps x e).n from hx) hX1
    have hb := behind_step hg (m := m.eps x e) (x := x) hx
    have hn : m.n ≤ (behind f (m.eps x e, x)).1.n := hb.1.n
    obtain ⟨Z, g1, g2⟩ := opt_sound hf hg (e := e) k (behind f (m.eps x e, x)).1 (behind f (m.eps x e, x)).2 Y (hb.1.ok (hok.ok_eps hx he)) hb.2 (Nat.lt_of_lt_of_le he hn) h2 (fun t ht i j hi hr => by
      obtain ⟨i0, h4, h5⟩ := h3 i hi
      exact (h1 e he j).2 (hE (t + 1) (by omega) i0 j h4 ⟨i, h5, hr⟩))
    exact ⟨Z, fun q hq i => (g1 q (Nat.lt_of_lt_of_le hq hn) i).trans (h1 q hq i), g2⟩
theorem opt_comp {s : ByteArray} {f : Mach → Mach} {R : Int → Int → Prop} (hf : CompF s f R) {e : Nat} : ∀ (k : Nat) (m : Mach) (x : Nat) (X : Nat → Int → Prop), ClosedM s (optB f e k (m, x)).1 X → (∀ i, X (optB f e k (m, x)).2 i → X e i) → ClosedM s m X ∧ ∀ t, t ≤ k → ∀ i j, X x i → Pw R t i j → X e j
  | 0, m, x, X, hX, hE => ⟨hX, fun t ht i j hi hr => by
    obtain rfl : t = 0 := by omega
    rw [Pw] at hr; subst hr; exact hE i hi⟩
  | k + 1, m, x, X, hX, hE => by
    obtain ⟨g1, g2⟩ := opt_comp hf (e := e) k _ _ X hX hE
    obtain ⟨h1, h2⟩ := behind_comp hf g1
    obtain ⟨h3, h4⟩ := ClosedM.of_eps h1
    refine ⟨h3, fun t ht i j hi hr => ?_⟩
    cases t with
    | zero => rw [Pw] at hr; subst hr; exact h4 i hi
    | succ t =>
      obtain ⟨c, h5, h6⟩ := hr
      exact g2 t (by omega) c j (h2 i c hi h5) h6
theorem loop_sound {s : ByteArray} {f : Mach → Mach} {R : Int → Int → Prop} (hf : SoundF s f R) {e : Nat} {m : Mach} {x : Nat} {X : Nat → Int → Prop} (hok : m.ok) (hx : x < m.n) (he : e < m.n) (hX : ClosedM s m X) (hE : ∀ t i j, X x i → Pw R t i j → X e j) :
    ∃ Y, (∀ q, q < m.n → ∀ i, Y q i ↔ X q i) ∧ ClosedM s ((loopB f e (m, x)).1.eps (loopB f e (m, x)).2 e) Y := by
  obtain ⟨Y, h1, h2, h3, h4⟩ := hf m hok X hX (fun j => ∃ t i, X x i ∧ Pw R t i j)
  have hend : ∀ j, Y (m.n + 1) j → ∃ t i, X x i ∧ Pw R t i j := fun j hj => by
    obtain ⟨c, ⟨t, i, hi, hp⟩, hr⟩ := h4 j hj
    exact ⟨t + 1, i, hi, (Pw_add R t 1 i j).2 ⟨c, hp, ⟨j, hr, rfl⟩⟩⟩
  refine ⟨Y, h1, (((h2.eps fun i hi => h3 i ⟨0, i, (h1 x hx i).1 hi, rfl⟩).eps fun j hj => h3 j (hend j hj)).eps fun j hj => ?_).eps fun i hi => ?_⟩
  · obtain ⟨t, i, hi, hp⟩ := hend j hj
    exact (h1 e he j).2 (hE t i j hi hp)
  · exact (h1 e he i).2 (hE 0 i i ((h1 x hx i).1 hi) rfl)
theorem loop_comp {s : ByteArray} {f : Mach → Mach} {R : Int → Int → Prop} (hf : CompF s f R) {e : Nat} {m : Mach} {x : Nat} {X : Nat → Int → Prop} (hX : ClosedM s ((loopB f e (m, x)).1.eps (loopB f e (m, x)).2 e) X) : ClosedM s m X ∧ ∀ t i j, X x i → Pw R t i j → X e j := by
  obtain ⟨h1, h2⟩ := ClosedM.of_eps hX
  obtain ⟨h3, h4⟩ := ClosedM.of_eps h1
  obtain ⟨h5, h6⟩ := ClosedM.of_eps h3
  obtain ⟨h7, h8⟩ := ClosedM.of_eps h5
  obtain ⟨h9, h10⟩ := hf m X h7
  have hk : ∀ t i j, X m.n i → Pw R (t + 1) i j → X e j := by
    intro t
    induction t with
    | zero =>
      rintro i j hi ⟨c, hr, hp⟩
      rw [Pw] at hp; subst hp
      exact h4 c (h10 i c hi hr)
    | succ t ih =>
      rintro i j hi ⟨c, hr, hp⟩
      exact ih c j (h6 c (h10 i c hi hr)) hp
  refine ⟨h9, fun t i j hi hr => ?_⟩
  cases t with
  | zero => rw [Pw] at hr; subst hr; exact h2 i hi
  | succ t => exact hk t i j (h8 i hi) hr
/-- What a plain pattern's kind and numbers may be. -/
theorem plain_kind {p : Pat} (hg : p.good = true) (hp : p.pln = true) : (p.op = 0 ∨ p.op = 1 ∨ p.op = 2 ∨ p.op = 3) ∧ (p.op = 3 → ∃ q, p.kids = [q]) ∧ 0 ≤ p.lo ∧ (0 ≤ p.hi → p.lo ≤ p.hi) ∧ (∀ q ∈ p.kids, q.good = true ∧ q.pln = true) := by
  have hn := hg
  rw [good_eq, Bool.and_eq_true, List.all_eq_true] at hn
  have hl := hp
  rw [pln_eq, Bool.and_eq_true, List.all_eq_true] at hl
  have h1 := hn.1
  have h2 := hl.1
  simp [okN] at h1 h2
  refine ⟨by omega, fun h => List.length_eq_one_iff.1 (by simp [h] at h1; omega), by omega, by omega, fun q hq => ⟨hn.2 q hq, hl.2 q hq⟩⟩
theorem set_sound {s : ByteArray} (c : BitVec 256) (m : Mach) (X : Nat → Int → Prop) (hok : m.ok) (hX : ClosedM s m X) (I : Int → Prop) (R : Int → Int → Prop) (hR : ∀ i, byteAt s c i → R i (i + 1)) :
    ∃ Y, (∀ q, q < m.n → ∀ i, Y q i ↔ X q i) ∧ ClosedM s (m.two.arc m.n (m.n + 1) c) Y ∧ (∀ i, I i → Y m.n i) ∧ ∀ j, Y (m.n + 1) j → ∃ i, I i ∧ R i j := by
  refine ⟨fun q i => (q < m.n ∧ X q i) ∨ (q = m.n ∧ I i) ∨ (q = m.n + 1 ∧ ∃ i0, I i0 ∧ R i0 i), fun q hq i => ⟨fun h => ?_, fun h => .inl ⟨hq, h⟩⟩, ?_, fun i hi => .inr (.inl ⟨rfl, hi⟩), fun j hj => ?_⟩
  · rcases h with h | h | h
    · exact h.2
    · omega
    · omega
  · have hXY := hX.agree (Y := fun q i => (q < m.n ∧ X q i) ∨ (q = m.n ∧ I i) ∨ (q = m.n + 1 ∧ ∃ i0, I i0 ∧ R i0 i)) hok (fun q hq i => ⟨fun h => by rcases h with h | h | h; exact h.2; omega; omega, fun h => .inl ⟨hq, h⟩⟩)
    refine ⟨hXY.1, fun a ha i h1 hb => ?_⟩
    rcases List.mem_append.1 ha with ha | ha
    · exact hXY.2 a ha i h1 hb
    · rw [List.mem_singleton] at ha
      subst ha
      rcases h1 with h1 | h1 | h1
      · exact absurd h1.1 (Nat.lt_irrefl _)
      · exact .inr (.inr ⟨rfl, i, h1.2, hR i hb⟩)
      · exact absurd h1.1 (by show ¬ m.n = m.n + 1; omega)
  · rcases hj with h | h | h
    · omega
    · omega
    · exact h.2
/-- Behind the two states of a fragment: its places are those that are told. -/
theorem two_sound {s : ByteArray} (m : Mach) (X : Nat → Int → Prop) (hok : m.ok) (hX : ClosedM s m X) (I J : Int → Prop) :
    ∃ Y : Nat → Int → Prop, (∀ q, q < m.n → ∀ i, Y q i ↔ X q i) ∧ ClosedM s m.two Y ∧ (∀ i, Y m.n i ↔ I i) ∧ ∀ j, Y (m.n + 1) j ↔ J j := by
  refine ⟨fun q i => (q < m.n ∧ X q i) ∨ (q = m.n ∧ I i) ∨ (q = m.n + 1 ∧ J i), fun q hq i => ⟨fun h => ?_, fun h => .inl ⟨hq, h⟩⟩, ?_, fun i => ⟨fun h => ?_, fun h => .inr (.inl ⟨rfl, h⟩)⟩, fun i => ⟨fun h => ?_, fun h => .inr (.inr ⟨rfl, h⟩)⟩⟩
  · rcases h with h | h | h
    · exact h.2
    · omega
    · omega
  · exact hX.agree (Y := fun q i => (q < m.n ∧ X q i) ∨ (q = m.n ∧ I i) ∨ (q = m.n + 1 ∧ J i)) hok (fun q hq i => ⟨fun h => by rcases h with h | h | h; exact h.2; omega; omega, fun h => .inl ⟨hq, h⟩⟩)
  · rcases h with h | h | h
    · omega
    · exact h.2
    · omega
  · rcases h with h | h | h
    · omega
    · omega
    · exact h.2
theorem bld_mk (op lo hi : Int) (c : BitVec 256) (kids : List Pat) (m : Mach) : bld (.mk op c lo hi kids) m =
    if op = 0 then m.two.arc m.n (m.n + 1) c
    else if op = 1 then (catB kids (m.two, m.n)).1.eps (catB kids (m.two, m.n)).2 (m.n + 1)
    else if op = 2 then altB kids m.n m.two
    else if op = 3 then
      if hi < 0 then (loopB (headB kids) (m.n + 1) (timesB (headB kids) lo.toNat (m.two, m.n))).1.eps (loopB (headB kids) (m.n + 1) (timesB (headB kids) lo.toNat (m.two, m.n))).2 (m.n + 1)
      else (optB (headB kids) (m.n + 1) (hi - lo).toNat (timesB (headB kids) lo.toNat (m.two, m.n))).1.eps (optB (headB kids) (m.n + 1) (hi - lo).toNat (timesB (headB kids) lo.toNat (m.two, m.n))).2 (m.n + 1)
    else m.two := by rw [bld]
theorem bld_sound (s : ByteArray) (p : Pat) : p.good = true → p.pln = true → SoundF s (bld p) (p.M s) := by
  induction p using Pat.by_size with | h p ih => ?_
  intro hg hp
  obtain ⟨hop, hone, hlo, hhi, hkk⟩ := plain_kind hg hp
  have hk : ∀ q ∈ p.kids, SoundF s (bld q) (q.M s) ∧ Frag (bld q) := fun q hq => ⟨ih q hq (hkk q hq).1 (hkk q hq).2, bld_frag q (good_ok q (hkk q hq).1)⟩
  intro m hok X hX I
  obtain ⟨op, c, lo, hi, kids⟩ := p
  simp only [Pat.op, Pat.kids, Pat.lo, Pat.hi] at hop hone hlo hhi hk
  rw [bld_mk]
  rcases hop with rfl | rfl | rfl | rfl
  · rw [if_pos rfl]
    exact set_sound c m X hok hX I _ fun i hb => (M_set rfl _ _).2 ⟨hb.1, rfl, hb.2⟩
  · rw [if_neg (by decide), if_pos rfl]
    obtain ⟨Y, h1, h2, h3, h4⟩ := two_sound m X hok hX I (fun j => ∃ i, I i ∧ (Pat.mk 1 c lo hi kids).M s i j)
    obtain ⟨Z, g1, g2, g3⟩ := cat_sound hk m.two m.n Y (Mach.ok_two hok) (two_lt m) h2
    refine ⟨Z, fun q hq i => (g1 q (by simp only [Mach.two]; omega) i).trans (h1 q hq i), g2.eps fun j hj => ?_, fun i hi => (g1 m.n (two_lt m) i).2 ((h3 i).2 hi), fun j hj => (h4 j).1 ((g1 (m.n + 1) (two_lt1 m) j).1 hj)⟩
    obtain ⟨i, hi, hr⟩ := g3 j hj
    exact (g1 (m.n + 1) (two_lt1 m) j).2 ((h4 j).2 ⟨i, (h3 i).1 hi, (M_cat rfl _ _).2 hr⟩)
  · rw [if_neg (by decide), if_neg (by decide), if_pos rfl]
    obtain ⟨Y, h1, h2, h3, h4⟩ := two_sound m X hok hX I (fun j => ∃ i, I i ∧ (Pat.mk 2 c lo hi kids).M s i j)
    obtain ⟨Z, g1, g2⟩ := alt_sound hk m.two m.n Y (Mach.ok_two hok) (two_lt1 m) h2 (fun q hq i j hi hr => (h4 j).2 ⟨i, (h3 i).1 hi, (M_alt rfl _ _).2 ((altM_iff _ _ _ _).2 ⟨q, hq, hr⟩)⟩)
    exact ⟨Z, fun q hq i => (g1 q (by simp only [Mach.two]; omega) i).trans (h1 q hq i), g2, fun i hi => (g1 m.n (two_lt m) i).2 ((h3 i).2 hi), fun j hj => (h4 j).1 ((g1 (m.n + 1) (two_lt1 m) j).1 hj)⟩
  · rw [if_neg (by decide), if_neg (by decide), if_neg (by decide), if_pos rfl]
    obtain ⟨q0, rfl⟩ := hone rfl
    have hq := hk q0 (by simp)
    have hh : headB [q0] = bld q0 := by funext m; rw [headB]
    have hR : rowM s [q0] = q0.M s := by funext a b; exact propext (rowM_one s q0 a b)
    rw [hh]
    obtain ⟨Y, h1, h2, h3, h4⟩ := two_sound m X hok hX I (fun j => ∃ i, I i ∧ (Pat.mk 3 c lo hi [q0]).M s i j)
    obtain ⟨Z, g1, g2, g3⟩ := times_sound hq.1 hq.2 lo.toNat m.two m.n Y (Mach.ok_two hok) (two_lt m) h2
    have hts := times_step hq.2 lo.toNat m.two m.n (two_lt m)
    have hn : m.two.n ≤ (timesB (bld q0) lo.toNat (m.two, m.n)).1.n := hts.1.n
    have he : m.n + 1 < (timesB (bld q0) lo.toNat (m.two, m.n)).1.n := Nat.lt_of_lt_of_le (two_lt1 m) hn
    have hend : ∀ (t : Nat), (hi < 0 ∨ ((lo.toNat + t : Nat) : Int) ≤ hi) → ∀ i j, Z (timesB (bld q0) lo.toNat (m.two, m.n)).2 i → Pw (q0.M s) t i j → Z (m.n + 1) j := fun t ht i j hi2 hr => by
      obtain ⟨i0, hi0, hp0⟩ := g3 i hi2
      refine (g1 (m.n + 1) (two_lt1 m) j).2 ((h4 j).2 ⟨i0, (h3 i0).1 hi0, (M_rep rfl _ _).2 ⟨lo.toNat + t, by show lo ≤ _; omega, ht, ?_⟩⟩)
      show Pw (rowM s [q0]) _ _ _
      rw [hR]
      exact (Pw_add _ _ _ _ _).2 ⟨i, hp0, hr⟩
    split
    · rename_i hneg
      obtain ⟨V, f1, f2⟩ := loop_sound hq.1 (hts.1.ok (Mach.ok_two hok)) hts.2 he g2 (fun t i j hi2 hr => hend t (.inl hneg) i j hi2 hr)
      refine ⟨V, fun q hq2 i => (f1 q (by simp only [Mach.two] at hn; omega) i).trans ((g1 q (by simp only [Mach.two]; omega) i).trans (h1 q hq2 i)), f2, fun i hi2 => (f1 m.n (by omega) i).2 ((g1 m.n (two_lt m) i).2 ((h3 i).2 hi2)), fun j hj => (h4 j).1 ((g1 (m.n + 1) (two_lt1 m) j).1 ((f1 (m.n + 1) he j).1 hj))⟩
    · rename_i hneg
      obtain ⟨V, f1, f2⟩ := opt_sound hq.1 hq.2 (e := m.n + 1) (hi - lo).toNat (timesB (bld q0) lo.toNat (m.two, m.n)).1 (timesB (bld q0) lo.toNat (m.two, m.n)).2 Z (hts.1.ok (Mach.ok_two hok)) hts.2 he g2 (fun t ht i j hi2 hr => hend t (.inr (by omega)) i j hi2 hr)
      refine ⟨V, fun q hq2 i => (f1 q (by simp only [Mach.two] at hn; omega) i).trans ((g1 q (by simp only [Mach.two]; omega) i).trans (h1 q hq2 i)), f2, fun i hi2 => (f1 m.n (by omega) i).2 ((g1 m.n (two_lt m) i).2 ((h3 i).2 hi2)), fun j hj => (h4 j).1 ((g1 (m.n + 1) (two_lt1 m) j).1 ((f1 (m.n + 1) he j).1 hj))⟩
theorem bld_comp (s : ByteArray) (p : Pat) : p.good = true → p.pln = true → CompF s (bld p) (p.M s) := by
  induction p using Pat.by_size with | h p ih => ?_
  intro hg hp
  obtain ⟨hop, hone, hlo, hhi, hkk⟩ := plain_kind hg hp
  have hk : ∀ q ∈ p.kids, CompF s (bld q) (q.M s) := fun q hq => ih q hq (hkk q hq).1 (hkk q hq).2
  intro m X hX
  obtain ⟨op, c, lo, hi, kids⟩ := p
  simp only [Pat.op, Pat.kids, Pat.lo, Pat.hi] at hop hone hlo hhi hk
  rw [bld_mk] at hX
  rcases hop with rfl | rfl | rfl | rfl
  · rw [if_pos rfl] at hX
    refine ⟨⟨hX.1, fun a ha => hX.2 a (List.mem_append_left _ ha)⟩, fun i j hi2 hr => ?_⟩
    obtain ⟨h0, rfl, hb⟩ := (M_set rfl _ _).1 hr
    exact hX.2 (m.n, m.n + 1, c) (List.mem_append_right _ (by simp)) i hi2 ⟨h0, hb⟩
  · rw [if_neg (by decide), if_pos rfl] at hX
    obtain ⟨h1, h2⟩ := ClosedM.of_eps hX
    obtain ⟨h3, h4⟩ := cat_comp hk m.two m.n X h1
    exact ⟨h3, fun i j hi2 hr => h2 j (h4 i j hi2 ((M_cat rfl _ _).1 hr))⟩
  · rw [if_neg (by decide), if_neg (by decide), if_pos rfl] at hX
    obtain ⟨h3, h4⟩ := alt_comp hk m.two m.n X hX
    exact ⟨h3, fun i j hi2 hr => h4 i j hi2 ((M_alt rfl _ _).1 hr)⟩
  · rw [if_neg (by decide), if_neg (by decide), if_neg (by decide), if_pos rfl] at hX
    obtain ⟨q0, rfl⟩ := hone rfl
    have hq := hk q0 (by simp)
    have hh : headB [q0] = bld q0 := by funext m; rw [headB]
    have hR : rowM s [q0] = q0.M s := by funext a b; exact propext (rowM_one s q0 a b)
    rw [hh] at hX
    have hsplit : ∀ (k : Nat), lo ≤ k → ∀ i j, Pw (q0.M s) k i j → ∃ c, Pw (q0.M s) lo.toNat i c ∧ Pw (q0.M s) (k - lo.toNat) c j := fun k hkl i j hr => (Pw_add _ lo.toNat (k - lo.toNat) i j).1 (by rwa [show lo.toNat + (k - lo.toNat) = k by omega])
    split at hX
    · obtain ⟨h1, h2⟩ := loop_comp hq hX
      obtain ⟨h3, h4⟩ := times_comp hq lo.toNat m.two m.n X h1
      refine ⟨h3, fun i j hi2 hr => ?_⟩
      obtain ⟨k, hk1, hk2, hk3⟩ := (M_rep rfl _ _).1 hr
      have hk3' : Pw (q0.M s) k i j := hR ▸ hk3
      obtain ⟨c2, h5, h6⟩ := hsplit k hk1 i j hk3'
      exact h2 _ c2 j (h4 i c2 hi2 h5) h6
    · rename_i hneg
      obtain ⟨h1, hE⟩ := ClosedM.of_eps hX
      obtain ⟨h1, h2⟩ := opt_comp hq (hi - lo).toNat _ _ X h1 hE
      obtain ⟨h3, h4⟩ := times_comp hq lo.toNat m.two m.n X h1
      refine ⟨h3, fun i j hi2 hr => ?_⟩
      obtain ⟨k, hk1, hk2, hk3⟩ := (M_rep rfl _ _).1 hr
      have hk3' : Pw (q0.M s) k i j := hR ▸ hk3
      obtain ⟨c2, h5, h6⟩ := hsplit k hk1 i j hk3'
      exact h2 (k - lo.toNat) (by have : hi < 0 ∨ (k : Int) ≤ hi := hk2; omega) c2 j (h4 i c2 hi2 h5) h6
/-- A text goes through the machine just where the pattern matches it. -/
theorem after_M (s : ByteArray) (p : Pat) (hg : p.good = true) (hp : p.pln = true) : After p.cnt (bld p M0).e (bld p M0).a (bytesOf s) 1 ↔ p.M s 0 s.size := by
  have hf := bld_frag p (good_ok p hg) M0
  have hn : (bld p M0).n = p.cnt := by
    have := bld_n p hg hp M0
    simpa [M0] using this
  have hok : (bld p M0).ok := hf.1.ok ⟨by simp [M0], by simp [M0]⟩
  have h2 : 2 ≤ p.cnt := by have := hf.2; rw [hn] at this; simpa [M0] using this
  have hlen := bytesOf_len s
  constructor
  · intro h
    obtain ⟨Y, _, hc, h0, h1⟩ := bld_sound s p hg hp M0 ⟨by simp [M0], by simp [M0]⟩ (fun _ _ => False) ⟨by simp [M0], by simp [M0]⟩ (fun i => i = 0)
    have hall : ∀ k, k ≤ s.size → ∀ q, After p.cnt (bld p M0).e (bld p M0).a ((bytesOf s).take k) q → Y q k := by
      intro k
      induction k with
      | zero =>
        intro _ q hq
        have hq2 : Reach p.cnt (bld p M0).e [0] q := hq
        clear hq
        induction hq2 with
        | base hx _ _ =>
          rw [List.mem_singleton] at hx
          subst hx
          exact h0 0 rfl
        | step _ he _ ih => exact hc.1 _ he _ ih
      | succ k ih =>
        intro hk q hq
        rw [after_take (by omega)] at hq
        obtain ⟨l, hl, hr⟩ := hq
        induction hr with
        | @base x hx h3 _ =>
          obtain ⟨z, hz, hx⟩ := mem_stepT.1 hx
          obtain ⟨y, hy, rfl⟩ := List.mem_map.1 hz
          obtain ⟨a, ha, rfl⟩ := List.mem_map.1 hx
          obtain ⟨ha, hb⟩ := List.mem_filter.1 ha
          obtain ⟨ha, hc2⟩ := List.mem_filter.1 ha
          have e : a.1 = y := by have : (a.1 : Int) = y := by simpa using hc2
                                 omega
          have hy2 := ih (by omega) y (hl y hy)
          rw [bytesOf_get s k (by omega)] at hb
          have := hc.2 a ha k (by rw [e]; exact hy2) ⟨by omega, by show ∃ h : ((k : Int)).toNat < s.size, _; exact ⟨by simpa using (show k < s.size by omega), by simpa using hb⟩⟩
          simpa using this
        | step _ he _ ih2 => exact hc.1 _ he _ ih2
    have hfin := hall s.size (Nat.le_refl _) 1 (by rwa [List.take_of_length_le (by omega)])
    obtain ⟨i, rfl, hm⟩ := h1 s.size hfin
    exact hm
  · intro h
    have hX : ClosedM s (bld p M0) (fun q i => ∃ k : Nat, i = k ∧ k ≤ s.size ∧ After p.cnt (bld p M0).e (bld p M0).a ((bytesOf s).take k) q) := by
      refine ⟨fun e he i => ?_, fun a ha i => ?_⟩
      · rintro ⟨k, rfl, hk, h3⟩
        refine ⟨k, rfl, hk, ?_⟩
        have hlt := (hok.e e he).2
        rw [hn] at hlt
        cases k with
        | zero => exact Reach.step (s := e.1) (t := e.2) h3 he hlt
        | succ k =>
          rw [after_take (by omega)] at h3 ⊢
          obtain ⟨l, hl, hr⟩ := h3
          exact ⟨l, hl, .step (s := e.1) (t := e.2) hr he hlt⟩
      · rintro ⟨k, rfl, hk, h3⟩ ⟨_, hb, hb2⟩
        have hks : k < s.size := by simpa using hb
        refine ⟨k + 1, rfl, hks, ?_⟩
        rw [after_take (by omega), bytesOf_get s k hks]
        have hlt := (hok.a a ha).2
        rw [hn] at hlt
        refine ⟨[a.1], fun x hx => by rw [List.mem_singleton] at hx; subst hx; exact h3, ?_⟩
        have := Reach.base (n := p.cnt) (E := (bld p M0).e) (L := stepT (bld p M0).a s[k].toNat ([a.1].map fun x : Nat => (x : Int))) (x := (a.2.1 : Int)) (mem_stepT.2 ⟨a.1, by simp, List.mem_map.2 ⟨a, List.mem_filter.2 ⟨List.mem_filter.2 ⟨ha, by simp⟩, by simpa using hb2⟩, rfl⟩⟩) (by omega) (by omega)
        simpa using this
    obtain ⟨_, hcp⟩ := bld_comp s p hg hp M0 _ hX
    obtain ⟨k, hk, _, hfin⟩ := hcp 0 s.size ⟨0, rfl, Nat.zero_le _, by
      have := Reach.base (n := p.cnt) (E := (bld p M0).e) (L := [0]) (x := 0) (by simp) (by omega) (by omega)
      exact this⟩ h
    have e : k = s.size := by omega
    subst e
    rw [List.take_of_length_le (by omega)] at hfin
    exact hfin
end Go.Proofs.YtpfhhdiipedklaaDoor
set_option maxRecDepth 100000
namespace Go.Proofs.YtpfhhdiipedklaaDoor
open Go.RowKit

theorem good_nums (p : Pat) : p.good = true → p.num = true := by
  induction p using Pat.by_size with | h p ih => ?_
  intro h
  have h0 := h
  rw [good_eq, Bool.and_eq_true, List.all_eq_true] at h
  rw [num_eq, Bool.and_eq_true, List.all_eq_true]
  refine ⟨?_, fun q hq => ih q hq (h.2 q hq)⟩
  have := good_num h0
  unfold numN
  by_cases h3 : p.op = 3
  · simp [h3]; omega
  · have h4 := h.1
    simp [okN] at h4
    simp [h3]; omega
/-- Does a pattern match a whole text? -/
noncomputable def MB (s : ByteArray) (p : Pat) : Bool := @decide (p.M s 0 s.size) (Classical.propDecidable _)
theorem MB_true {s : ByteArray} {p : Pat} : MB s p = true ↔ p.M s 0 s.size := @decide_eq_true_iff _ (Classical.propDecidable _)
theorem MB_goes (s : ByteArray) (p : Pat) (hg : p.good = true) (hp : p.pln = true) : goesB p.cnt (bld p M0).e (bld p M0).a s = MB s p := by
  rw [Bool.eq_iff_iff, goesB_true, MB_true]
  exact after_M s p hg hp
set_option maxHeartbeats 2000000 in
theorem rWhole_any (s : ByteArray) (p : Pat) (ks : Value) (w : World) (hsz : s.size ≤ 90) (hps : p.size ≤ 9000) (hg : p.good = true) (hk : Kids w p.kids ks) :
    Calls Tryd.prog 17 #[(.agg #[.int .i64 p.op, .int .u64 (wd p.set 0), .int .u64 (wd p.set 1), .int .u64 (wd p.set 2), .int .u64 (wd p.set 3), .int .i64 p.lo, .int .i64 p.hi, ks]), .string s] w fun e w' => e = .returned (.bool (MB s p)) ∧ Below w.heap.size w w' := by
  obtain ⟨a, cap, rfl⟩ := hk.len
  obtain ⟨N, hN⟩ : ∃ N, w.heap.size = N := ⟨_, rfl⟩
  have hb1 := new_one w (.cells #[.int .i64 p.op, .int .u64 (wd p.set 0), .int .u64 (wd p.set 1), .int .u64 (wd p.set 2), .int .u64 (wd p.set 3), .int .i64 p.lo, .int .i64 p.hi, .slice a p.kids.length cap] 36)
  have HB1 := Lib.hid hb1
  have HCC := Lib.hid (rEnds_any s (s.size + 1) p (from_any s (s.size + 1) rfl hsz p hps (good_nums p hg) (good_ok p hg)) rfl hsz (.slice a p.kids.length cap) _ 0 (Nat.zero_le _) (hk.below hb1))
  clear hb1 hk
  rw [hN]
  go_enter Tryd.func17, Tryd.ntmps17
  go_upto_region 2 with (go_at_call 37; refine HCC.out.mono ?_; rintro e w5 ⟨v5, g5, rfl, HRD, HG5, HBW5⟩)
  have HBB : Hid (Below N w w5) := Lib.hid (by rw [← hN]; exact HB1.out.trans (HBW5.out.mono (by simp)))
  have hgs : g5 s.size = MB s p := by
    rw [Bool.eq_iff_iff, MB_true]
    have := HG5.out s.size (Nat.le_refl _)
    simpa using this
  cases hq : g5 s.size
  · have hmb : MB s p = false := by rw [← hgs, hq]
    have HMB := Lib.hid hmb
    rw [placesOf_no hq] at HRD
    rcases List.eq_nil_or_concat (placesOf s.size g5) with hl | ⟨l, z, hl⟩
    · rw [hl] at HRD
      obtain ⟨a5, c5, rfl⟩ := HRD.out.len
      clear hgs hmb hq hl HG5
      go_wp2
      go_ret
      refine ⟨?_, HBB.out⟩
      rw [HMB.out]; rfl
    · rw [List.concat_eq_append] at hl
      obtain ⟨x, hx, hxs, _⟩ := placesOf_last _ _ _ _ hl
      rw [hl] at HRD
      have hlen : ((l ++ [z]).map (Value.int .i64)).length = l.length + 1 := by simp
      obtain ⟨b5, o5, c5, e5, r5⟩ := HRD.out.at (i := l.length) (by simp)
      rw [hlen] at e5
      subst e5
      have r6 : w5.cell? ⟨b5, o5 + l.length, none⟩ = some (.int .i64 z) := by rw [r5]; simp
      have hll : l.length < 1000 := by
        have := placesOf_len s.size g5
        rw [hl] at this
        simp at this
        omega
      have hzz : (z == (s.size : Int)) = false := by rw [beq_eq_false_iff_ne]; omega
      have hd0 : decide (((l.length + 1 : Nat) : Int) > 0) = true := decide_eq_true (by omega)
      clear r5 hlen hl HRD hx hxs hgs hmb hq HG5
      generalize l.length = ln at *
      go_wp2
      go_ret
      refine ⟨?_, HBB.out⟩
      rw [HMB.out]; rfl
  · have hmb : MB s p = true := by rw [← hgs, hq]
    have HMB := Lib.hid hmb
    rw [placesOf_yes hq] at HRD
    have hlen : ((placesOf s.size g5 ++ [(s.size : Int)]).map (Value.int .i64)).length = (placesOf s.size g5).length + 1 := by simp
    obtain ⟨b5, o5, c5, e5, r5⟩ := HRD.out.at (i := (placesOf s.size g5).length) (by simp)
    rw [hlen] at e5
    subst e5
    have r6 : w5.cell? ⟨b5, o5 + (placesOf s.size g5).length, none⟩ = some (.int .i64 s.size) := by rw [r5]; simp
    have hll : (placesOf s.size g5).length < 1000 := by
      have := placesOf_len s.size g5
      omega
    have hd0 : decide ((((placesOf s.size g5).length + 1 : Nat) : Int) > 0) = true := decide_eq_true (by omega)
    clear r5 hlen HRD hgs hmb hq HG5
    generalize (placesOf s.size g5).length = ln at *
    go_wp2
    go_ret
    refine ⟨?_, HBB.out⟩
    rw [HMB.out]; rfl
end Go.Proofs.YtpfhhdiipedklaaDoor
set_option maxRecDepth 100000
namespace Go.Proofs.YtpfhhdiipedklaaDoor
open Go.RowKit

theorem node_box {w : World} {b : Nat} {p : Pat} {ks : Value} (h : w.heap[b]? = some (.cells #[.int .i64 p.op, .int .u64 (wd p.set 0), .int .u64 (wd p.set 1), .int .u64 (wd p.set 2), .int .u64 (wd p.set 3), .int .i64 p.lo, .int .i64 p.hi, ks] 36 (0, 0))) : w.cell? ⟨b, 0, none⟩ = some (.int .i64 p.op) ∧ w.cell? ⟨b, 1, none⟩ = some (.int .u64 (wd p.set 0)) ∧ w.cell? ⟨b, 2, none⟩ = some (.int .u64 (wd p.set 1)) ∧ w.cell? ⟨b, 3, none⟩ = some (.int .u64 (wd p.set 2)) ∧ w.cell? ⟨b, 4, none⟩ = some (.int .u64 (wd p.set 3)) ∧ w.cell? ⟨b, 5, none⟩ = some (.int .i64 p.lo) ∧ w.cell? ⟨b, 6, none⟩ = some (.int .i64 p.hi) ∧ w.cell? ⟨b, 7, none⟩ = some ks :=
  ⟨(cell_of_row _ _ 0 _ _ _ h).trans rfl, (cell_of_row _ _ 1 _ _ _ h).trans rfl, (cell_of_row _ _ 2 _ _ _ h).trans rfl, (cell_of_row _ _ 3 _ _ _ h).trans rfl, (cell_of_row _ _ 4 _ _ _ h).trans rfl, (cell_of_row _ _ 5 _ _ _ h).trans rfl, (cell_of_row _ _ 6 _ _ _ h).trans rfl, (cell_of_row _ _ 7 _ _ _ h).trans rfl⟩
/-- A pattern as it lies in a block, with its kids. -/
structure PBox (w : World) (b : Nat) (p : Pat) (ks : Value) : Prop where
  cells : w.heap[b]? = some (.cells #[.int .i64 p.op, .int .u64 (wd p.set 0), .int .u64 (wd p.set 1), .int .u64 (wd p.set 2), .int .u64 (wd p.set 3), .int .i64 p.lo, .int .i64 p.hi, ks] 36 (0, 0))
  kids : Kids w p.kids ks
theorem PBox.below {w w' : World} {b : Nat} {p : Pat} {ks : Value} (h : PBox w b p ks) (hb : Below w.heap.size w w') : PBox w' b p ks := ⟨(hb.block b (lt_of_block h.cells)).trans h.cells, h.kids.below hb⟩
theorem PBox.new {w : World} {p : Pat} {ks : Value} (h : Kids w p.kids ks) : PBox (w.alloc (.cells #[.int .i64 p.op, .int .u64 (wd p.set 0), .int .u64 (wd p.set 1), .int .u64 (wd p.set 2), .int .u64 (wd p.set 3), .int .i64 p.lo, .int .i64 p.hi, ks] 36)) w.heap.size p ks := ⟨heap_alloc_new w _, h.below (new_one w _)⟩
set_option linter.unusedSimpArgs false in
set_option maxHeartbeats 4000000 in
theorem means_law (code s : ByteArray) (w : World) (hT : Tab w) :
    Calls Tryd.prog 4 #[.string code, .string s] w fun e w' => e = .returned (.bool true) ∧ Below w.heap.size w w' := by
  have HAW := Lib.hid (awake_any w hT)
  have HT := Lib.hid hT
  have mixed : Tryd.prog.follows .mixedOrders = true := by kernel_rfl
  clear hT
  go_enter Tryd.func4, Tryd.ntmps4
  go_upto_region 2 with (go_at_call 7; (with_reducible refine HAW.out.mono ?_); rintro e w1 ⟨rfl, hb1⟩)
  have HB1 := Lib.hid hb1
  clear hb1 HAW
  by_cases hc : code.size > 10
  · have hd1 : decide ((code.size : Int) > 10) = true := decide_eq_true (by omega)
    have hd2 : decide ((10 : Int) < code.size) = true := decide_eq_true (by omega)
    go_wp2
    go_ret
    exact ⟨rfl, HB1.out⟩
  have hd1 : decide ((code.size : Int) > 10) = false := decide_eq_false (by omega)
  have hd2 : decide ((10 : Int) < code.size) = false := decide_eq_false (by omega)
  by_cases hl : s.size > 10
  · have hd3 : decide ((s.size : Int) > 10) = true := decide_eq_true (by omega)
    have hd4 : decide ((10 : Int) < s.size) = true := decide_eq_true (by omega)
    go_wp2
    go_ret
    exact ⟨rfl, HB1.out⟩
  have hd3 : decide ((s.size : Int) > 10) = false := decide_eq_false (by omega)
  have hd4 : decide ((10 : Int) < s.size) = false := decide_eq_false (by omega)
  have HPL := Lib.hid (rplain_any code w1 (by omega))
  have hcs : code.size ≤ 10 := by omega
  have hls : s.size ≤ 10 := by omega
  clear hc hl
  go_upto_region 7 with (go_at_call 9; (with_reducible refine HPL.out.mono ?_); rintro e w2 ⟨p, ks, rfl, HK2, hs2, HG2, HB2⟩; obtain ⟨ak, ck, rfl⟩ := HK2.out.len)
  obtain ⟨bn, hbne⟩ : ∃ bn, w2.heap.size = bn := ⟨_, rfl⟩
  obtain ⟨w2', hw2'⟩ : ∃ w2', w2.alloc (.cells #[.int .i64 p.op, .int .u64 (wd p.set 0), .int .u64 (wd p.set 1), .int .u64 (wd p.set 2), .int .u64 (wd p.set 3), .int .i64 p.lo, .int .i64 p.hi, .slice ak p.kids.length ck] 36) = w2' := ⟨_, rfl⟩
  have HX2 : Hid (PBox w2' bn p (.slice ak p.kids.length ck)) := Lib.hid (by rw [← hw2', ← hbne]; exact PBox.new HK2.out)
  have HW2 := Lib.hid (show Below w.heap.size w w2' from (HB1.out.trans (HB2.out.mono HB1.out.size)).trans (by rw [← hw2']; exact (new_one w2 _).mono (Nat.le_trans HB1.out.size HB2.out.size)))
  have HBD := Lib.hid (nbuild_plain p (.slice ak p.kids.length ck) w2' (by omega) HX2.out.kids HG2.out)
  rw [hw2', hbne]
  clear hw2' hbne HPL HK2 HB2 hd1 hd2 hd3 hd4
  obtain ⟨x0, x1, x2, x3, x4, x5, x6, x7⟩ := node_box HX2.out.cells
  go_upto_region 8 with (go_at_call 8; (with_reducible refine HBD.out.mono ?_); rintro e w3 ⟨n, ae, ne, ce, aa, na, ca, x4', r, rfl, HR3, HB3⟩)
  have HW3 := Lib.hid (HW2.out.trans (HB3.out.mono HW2.out.size))
  have HX3 := Lib.hid (HX2.out.below HB3.out)
  clear x0 x1 x2 x3 x4 x5 x6 x7 HBD HX2 HB3 HB1
  rcases HR3.out with rfl | ⟨rfl, rfl, rfl, rfl, rfl, hc3, he3, ha3⟩
  · go_wp2
    go_ret
    exact ⟨rfl, HW3.out.trans ((new_one w3 _).mono HW3.out.size)⟩
  have hok := built_ok HG2.out.1 HG2.out.2
  have HMG := Lib.hid (MB_goes s p HG2.out.1 HG2.out.2)
  generalize (bld p M0).e = E at *
  generalize (bld p M0).a = A at *
  generalize p.cnt = cnt at *
  obtain ⟨b, hbe⟩ : ∃ b, w3.heap.size = b := ⟨_, rfl⟩
  obtain ⟨w4, hw4⟩ : ∃ w4, w3.alloc (.cells #[.int .i64 cnt, .slice ae E.length ce, .slice aa A.length ca, .int .i64 0, .int .i64 1] 27) = w4 := ⟨_, rfl⟩
  have hb34 : Below w3.heap.size w3 w4 := by rw [← hw4]; exact new_one w3 _
  have HX4 : Hid (Nblk w4 b cnt (.slice ae E.length ce) (.slice aa A.length ca)) := Lib.hid (by rw [← hw4, ← hbe]; exact Nblk.new w3 cnt _ _)
  have HP4 := Lib.hid (HX3.out.below hb34)
  have HW4 := Lib.hid (HW3.out.trans (hb34.mono HW3.out.size))
  have hel : E.length ≤ 20000 := by omega
  have hal : A.length ≤ 20000 := by omega
  have hbd : Below w4.heap.size w4 w4.drew := (Below.refl _ w4).drew
  have hwh := nwhole_any cnt E A (.slice ae E.length ce) (.slice aa A.length ca) s w4.drew hc3 (he3.below (hb34.trans (hbd.mono hb34.size))) (ha3.below (hb34.trans (hbd.mono hb34.size))) hel hal (by omega) (HT.out.below (HW4.out.trans (hbd.mono HW4.out.size)))
  rw [HMG.out] at hwh
  have HWH := Lib.hid hwh
  have HRW := Lib.hid (fun W (hW : Below w4.heap.size w4 W) => rWhole_any s p (.slice ak p.kids.length ck) W (by omega) (by omega) HG2.out.1 (HP4.out.kids.below hW))
  rw [hw4, hbe]
  clear hw4 hbe hb34 HR3 he3 ha3 hok HW3 HG2 HX3 hwh HMG
  generalize MB s p = q at *
  obtain ⟨x0, x1, x2, x3, x4⟩ := HX4.out.cells
  obtain ⟨y0, y1, y2, y3, y4, y5, y6, y7⟩ := node_box HP4.out.cells
  go_upto_region 10 with fail
  refine region_goes 7 8 rfl (fun W => W.cell? ⟨b, 0, none⟩ = some (.int .i64 cnt) ∧ W.cell? ⟨b, 1, none⟩ = some (.slice ae E.length ce) ∧ W.cell? ⟨b, 2, none⟩ = some (.slice aa A.length ca) ∧ W.cell? ⟨b, 3, none⟩ = some (.int .i64 0) ∧ W.cell? ⟨b, 4, none⟩ = some (.int .i64 1) ∧ W.cell? ⟨bn, 0, none⟩ = some (.int .i64 p.op) ∧ W.cell? ⟨bn, 1, none⟩ = some (.int .u64 (wd p.set 0)) ∧ W.cell? ⟨bn, 2, none⟩ = some (.int .u64 (wd p.set 1)) ∧ W.cell? ⟨bn, 3, none⟩ = some (.int .u64 (wd p.set 2)) ∧ W.cell? ⟨bn, 4, none⟩ = some (.int .u64 (wd p.set 3)) ∧ W.cell? ⟨bn, 5, none⟩ = some (.int .i64 p.lo) ∧ W.cell? ⟨bn, 6, none⟩ = some (.int .i64 p.hi) ∧ W.cell? ⟨bn, 7, none⟩ = some (.slice ak p.kids.length ck)) mixed ⟨x0, x1, x2, x3, x4, y0, y1, y2, y3, y4, y5, y6, y7⟩ (fun hHeld => ?_)
  clear x0 x1 x2 x3 x4 y0 y1 y2 y3 y4 y5 y6 y7
  refine goes_take (i := 0) (v := ?gv1) rfl (by kernel_rfl) (by kernel_rfl) (by kernel_rfl) (by kernel_rfl) (fun _ _ _ h => h) (Or.inl ⟨by rfl, ?gy1⟩) (by assumption) ?gr1
  case gy1 => (intro W9 hW9; obtain ⟨k0, k1, k2, k3, k4, k5, k6, k7, k8, k9, k10, k11, k12⟩ := hW9; first | (go_simp; done) | (go_simp; with_reducible rfl))
  simp only [Act.put, List.getElem_toArray, List.getElem_cons_succ, List.getElem_cons_zero, List.setIfInBounds_toArray, List.set_cons_zero, List.set_cons_succ]
  refine goes_take (i := 1) (v := ?gv2) rfl (by kernel_rfl) (by kernel_rfl) (by kernel_rfl) (by kernel_rfl) (fun _ _ _ h => h) (Or.inl ⟨by rfl, ?gy2⟩) (by assumption) ?gr2
  case gy2 => (intro W9 hW9; obtain ⟨k0, k1, k2, k3, k4, k5, k6, k7, k8, k9, k10, k11, k12⟩ := hW9; first | (go_simp; done) | (go_simp; with_reducible rfl))
  simp only [Act.put, List.getElem_toArray, List.getElem_cons_succ, List.getElem_cons_zero, List.setIfInBounds_toArray, List.set_cons_zero, List.set_cons_succ]
  refine goes_take (i := 3) (v := ?gv3) rfl (by kernel_rfl) (by kernel_rfl) (by kernel_rfl) (by kernel_rfl) (fun _ _ _ h => h) (Or.inl ⟨by rfl, ?gy3⟩) (by assumption) ?gr3
  case gy3 => (intro W9 hW9; obtain ⟨k0, k1, k2, k3, k4, k5, k6, k7, k8, k9, k10, k11, k12⟩ := hW9; first | (go_simp; done) | (go_simp; with_reducible rfl))
  simp only [Act.put, List.getElem_toArray, List.getElem_cons_succ, List.getElem_cons_zero, List.setIfInBounds_toArray, List.set_cons_zero, List.set_cons_succ]
  refine goes_take (i := 4) (v := ?gv4) rfl (by kernel_rfl) (by kernel_rfl) (by kernel_rfl) (by kernel_rfl) (fun _ _ _ h => h) (Or.inl ⟨by rfl, ?gy4⟩) (by assumption) ?gr4
  case gy4 => (intro W9 hW9; obtain ⟨k0, k1, k2, k3, k4, k5, k6, k7, k8, k9, k10, k11, k12⟩ := hW9; first | (go_simp; done) | (go_simp; with_reducible rfl))
  simp only [Act.put, List.getElem_toArray, List.getElem_cons_succ, List.getElem_cons_zero, List.setIfInBounds_toArray, List.set_cons_zero, List.set_cons_succ]
  refine goes_one (i := 2) (by kernel_rfl) rfl (fun K9 hK9 => ?_)
  go_simp
  refine (HWH.out).mono ?_
  rintro e w5 ⟨rfl, hb5⟩
  have hb5' := hbd.trans (hb5.mono hbd.size)
  obtain ⟨k0, k1, k2, k3, k4, k5, k6, k7, k8, k9, k10, k11, k12⟩ := hHeld
  refine hK9.out _ _ (fun _ => ⟨cell_below hb5 k0, cell_below hb5 k1, cell_below hb5 k2, cell_below hb5 k3, cell_below hb5 k4, cell_below hb5 k5, cell_below hb5 k6, cell_below hb5 k7, cell_below hb5 k8, cell_below hb5 k9, cell_below hb5 k10, cell_below hb5 k11, cell_below hb5 k12⟩) (fun hHeld => ?_)
  have hHeld := hHeld (by decide)
  clear hK9 K9 k0 k1 k2 k3 k4 k5 k6 k7 k8 k9 k10 k11 k12
  refine goes_one (i := 5) (by kernel_rfl) rfl (fun K9 hK9 => ?_)
  go_simp
  refine (HRW.out w5 hb5').mono ?_
  rintro e w6 ⟨rfl, hb6⟩
  have hb6' := hb5'.trans (hb6.mono hb5'.size)
  obtain ⟨k0, k1, k2, k3, k4, k5, k6, k7, k8, k9, k10, k11, k12⟩ := hHeld
  refine hK9.out _ _ (fun _ => ⟨cell_below hb6 k0, cell_below hb6 k1, cell_below hb6 k2, cell_below hb6 k3, cell_below hb6 k4, cell_below hb6 k5, cell_below hb6 k6, cell_below hb6 k7, cell_below hb6 k8, cell_below hb6 k9, cell_below hb6 k10, cell_below hb6 k11, cell_below hb6 k12⟩) (fun hHeld => ?_)
  have hHeld := hHeld (by decide)
  clear hK9 K9 k0 k1 k2 k3 k4 k5 k6 k7 k8 k9 k10 k11 k12
  refine goes_take (i := 6) (v := (.bool true)) rfl (by kernel_rfl) (by kernel_rfl) (by kernel_rfl) (by kernel_rfl) (fun _ _ _ h => h) (Or.inl ⟨by rfl, ?gy5⟩) (by assumption) ?gr5
  case gy5 => (intro W9 hW9; obtain ⟨k0, k1, k2, k3, k4, k5, k6, k7, k8, k9, k10, k11, k12⟩ := hW9; first | (go_simp; done) | (go_simp; with_reducible rfl))
  simp only [Act.put, List.getElem_toArray, List.getElem_cons_succ, List.getElem_cons_zero, List.setIfInBounds_toArray, List.set_cons_zero, List.set_cons_succ]
  refine goes_one (i := 7) (by kernel_rfl) rfl (fun K9 hK9 => ?_)
  go_simp
  refine hK9.out _ _ (fun h => absurd rfl h) (fun _ => ?_)
  clear hK9 K9 hHeld
  refine goes_done (by kernel_rfl) ?_ _
  go_wp2
  go_ret
  exact ⟨rfl, HW4.out.trans (hb6'.mono HW4.out.size)⟩
end Go.Proofs.YtpfhhdiipedklaaDoor
