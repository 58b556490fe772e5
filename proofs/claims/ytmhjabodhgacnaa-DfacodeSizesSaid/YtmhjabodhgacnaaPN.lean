/- Mathematics of chapter 11: machines' bytes, and what is read from bytes. -/
import Derived.Test.YtmhjabodhgacnaaPM
import Derived.Test.YtmhjabodhgacnaaXD
set_option maxRecDepth 100000
namespace Go.Proofs.Ytmhjabodhgacnaa

def arB (a : Arc3) : List Nat := a.lo :: a.hi :: numB a.dest.toNat
def stB (s : Sta) : List Nat := numB s.acc ++ (numB s.arcs.length ++ s.arcs.flatMap arB)
def bodyB (m : List Sta) : List Nat := [68, 70, 65, 49] ++ (numB m.length ++ m.flatMap stB)
def putB (m : List Sta) : List Nat := bodyB m ++ fourB (sumB (bodyB m))
/-- Arcs and states that may be told. -/
def OkA (a : Arc3) : Prop := a.lo < 256 ∧ a.hi < 256 ∧ 0 ≤ a.dest ∧ a.dest ≤ 4096
def OkS (s : Sta) : Prop := s.acc < 18446744073709551616 ∧ s.arcs.length ≤ 256 ∧ ∀ a ∈ s.arcs, OkA a
theorem fits_rise11 {n : Nat} {l : List Arc3} (h : fitsB n l = true) : ∀ i (hi : i < l.length), i ≤ l[i].lo
  | 0, _ => Nat.zero_le _
  | i + 1, hi => by
    have h0 := fits_rise11 h i (by omega)
    have h1 := fits_iff.1 h i (by omega)
    have h2 := fits_iff.1 h (i + 1) hi
    unfold fitAt arcOk at h1 h2
    rw [prevOk_succ (by omega)] at h2
    simp only [behindB, Bool.and_eq_true, Bool.or_eq_true, decide_eq_true_eq] at h1 h2
    omega
theorem fits_256 {n : Nat} {l : List Arc3} (h : fitsB n l = true) (hb : ∀ a ∈ l, a.lo < 256) : l.length ≤ 256 := by
  by_cases h0 : l.length = 0
  · omega
  · have h1 := fits_rise11 h (l.length - 1) (by omega)
    have h2 := hb _ (List.getElem_mem (show l.length - 1 < l.length by omega))
    omega
theorem good_len {m : List Sta} (h : checkB m = true) : m.length ≤ 4096 := by
  unfold checkB at h
  rw [Bool.and_eq_true, decide_eq_true_eq] at h
  exact h.1
theorem good_st {m : List Sta} (h : checkB m = true) (hm : Mays m) : ∀ s ∈ m, OkS s := by
  intro s hs
  have hl := good_len h
  unfold checkB at h
  rw [Bool.and_eq_true, List.all_eq_true] at h
  have hf := h.2 s hs
  obtain ⟨h1, h2⟩ := hm s hs
  refine ⟨h1, fits_256 hf fun a ha => (h2 a ha).1, fun a ha => ?_⟩
  obtain ⟨i, hi, rfl⟩ := List.getElem_of_mem ha
  have h3 := fits_iff.1 hf i hi
  unfold fitAt arcOk at h3
  simp only [Bool.and_eq_true, decide_eq_true_eq] at h3
  exact ⟨(h2 _ ha).1, (h2 _ ha).2.1, h3.1.2.1, by omega⟩
theorem okS_mays {m : List Sta} (h : ∀ s ∈ m, OkS s) : Mays m := by
  intro s hs
  obtain ⟨h1, _, h3⟩ := h s hs
  exact ⟨h1, fun a ha => by obtain ⟨a1, a2, a3, a4⟩ := h3 a ha; exact ⟨a1, a2, by omega, by omega⟩⟩
theorem arB_bytes {a : Arc3} (h : OkA a) : ∀ x ∈ arB a, x < 256 := by
  intro x hx
  unfold arB at hx
  rcases List.mem_cons.1 hx with rfl | hx
  · exact h.1
  · rcases List.mem_cons.1 hx with rfl | hx
    · exact h.2.1
    · exact numB_bytes _ x hx
theorem stB_bytes {s : Sta} (h : OkS s) : ∀ x ∈ stB s, x < 256 := by
  intro x hx
  unfold stB at hx
  rcases List.mem_append.1 hx with hx | hx
  · exact numB_bytes _ x hx
  · rcases List.mem_append.1 hx with hx | hx
    · exact numB_bytes _ x hx
    · obtain ⟨a, ha, hx⟩ := List.mem_flatMap.1 hx
      exact arB_bytes (h.2.2 a ha) x hx
theorem bodyB_bytes {m : List Sta} (h : ∀ s ∈ m, OkS s) : ∀ x ∈ bodyB m, x < 256 := by
  intro x hx
  unfold bodyB at hx
  rcases List.mem_append.1 hx with hx | hx
  · simp only [List.mem_cons, List.not_mem_nil, or_false] at hx
    omega
  · rcases List.mem_append.1 hx with hx | hx
    · exact numB_bytes _ x hx
    · obtain ⟨a, ha, hx⟩ := List.mem_flatMap.1 hx
      exact stB_bytes (h a ha) x hx
theorem putB_bytes {m : List Sta} (h : ∀ s ∈ m, OkS s) : ∀ x ∈ putB m, x < 256 := by
  intro x hx
  rcases List.mem_append.1 hx with hx | hx
  · exact bodyB_bytes h x hx
  · exact fourB_bytes _ x hx
theorem flat_le {α : Type} (f : α → List Nat) (k : Nat) : ∀ (l : List α), (∀ x ∈ l, (f x).length ≤ k) → (l.flatMap f).length ≤ k * l.length
  | [], _ => by simp
  | x :: l, h => by
    rw [List.flatMap_cons, List.length_append, List.length_cons, Nat.mul_add]
    have h1 := h x (by simp)
    have h2 := flat_le f k l fun y hy => h y (by simp [hy])
    omega
theorem arB_len {a : Arc3} (h : OkA a) : (arB a).length ≤ 12 := by
  unfold arB
  have := numB_ten (n := a.dest.toNat) (by have := h.2.2.2; omega)
  simp only [List.length_cons]
  omega
theorem stB_len {s : Sta} (h : OkS s) : (stB s).length ≤ 4000 := by
  unfold stB
  rw [List.length_append, List.length_append]
  have h1 := numB_ten h.1
  have h2 := numB_ten (n := s.arcs.length) (by have := h.2.1; omega)
  have h3 := flat_le arB 12 s.arcs fun a ha => arB_len (h.2.2 a ha)
  have h4 := h.2.1
  omega
theorem bodyB_len {m : List Sta} (hl : m.length ≤ 4096) (h : ∀ s ∈ m, OkS s) : (bodyB m).length ≤ 20000000 := by
  unfold bodyB
  rw [List.length_append, List.length_append]
  have h2 := numB_ten (n := m.length) (by omega)
  have h3 := flat_le stB 4000 m fun a ha => stB_len (h a ha)
  have h4 : ([68, 70, 65, 49] : List Nat).length = 4 := rfl
  omega
/-! What is read. -/
abbrev RS := List Nat × Bool
def rdNum (s : RS) : Nat × RS := if (valB s.1).2 = 0 then (0, ([], true)) else ((valB s.1).1, (s.1.drop (valB s.1).2, s.2))
def rdOne : RS → Nat × RS
  | ([], _) => (0, ([], true))
  | (b :: l, e) => (b, (l, e))
def rdUp (most : Nat) (s : RS) : Nat × RS := if most < (rdNum s).1 then (0, ([], true)) else rdNum s
def rdArc (s : RS) : Arc3 × RS := (⟨(rdOne s).1, (rdOne (rdOne s).2).1, ((rdUp 4096 (rdOne (rdOne s).2).2).1 : Nat)⟩, (rdUp 4096 (rdOne (rdOne s).2).2).2)
def rdRep {α : Type} (f : RS → α × RS) : Nat → RS → List α × RS
  | 0, s => ([], s)
  | n + 1, s => if s.2 then ([], s) else ((f s).1 :: (rdRep f n (f s).2).1, (rdRep f n (f s).2).2)
def rdList {α : Type} (f : RS → α × RS) (most : Nat) (s : RS) : List α × RS := rdRep f (rdUp most s).1 (rdUp most s).2
def rdSt (s : RS) : Sta × RS := (⟨(rdNum s).1, (rdList rdArc 256 (rdNum s).2).1⟩, (rdList rdArc 256 (rdNum s).2).2)
def rdMach (s : RS) : List Sta × RS := rdList rdSt 4096 s
/-- What is told is read. -/
theorem rdNum_num {n : Nat} (h : n < 18446744073709551616) (r : List Nat) (e : Bool) : rdNum (numB n ++ r, e) = (n, (r, e)) := by
  unfold rdNum
  rw [valB_num h]
  have := numB_pos n
  simp only []
  rw [if_neg (by omega), List.drop_left]
theorem rdUp_num {n most : Nat} (h : n < 18446744073709551616) (hm : n ≤ most) (r : List Nat) (e : Bool) : rdUp most (numB n ++ r, e) = (n, (r, e)) := by
  unfold rdUp
  rw [rdNum_num h]
  exact if_neg (by simp only []; omega)
theorem rdArc_arc {a : Arc3} (h : OkA a) (r : List Nat) (e : Bool) : rdArc (arB a ++ r, e) = (a, (r, e)) := by
  obtain ⟨lo, hi, d⟩ := a
  obtain ⟨h1, h2, h3, h4⟩ := h
  simp only [] at h1 h2 h3 h4
  unfold rdArc arB
  simp only [List.cons_append, rdOne]
  rw [rdUp_num (by omega) (by omega)]
  simp only [Int.toNat_of_nonneg h3]
theorem rdRep_all {α : Type} {f : RS → α × RS} {enc : α → List Nat} : ∀ {xs : List α} (_ : ∀ x ∈ xs, ∀ r, f (enc x ++ r, false) = (x, (r, false))) (r : List Nat), rdRep f xs.length (xs.flatMap enc ++ r, false) = (xs, (r, false))
  | [], _, _ => rfl
  | x :: xs, h, r => by
    rw [List.length_cons, List.flatMap_cons, List.append_assoc, rdRep, h x (by simp)]
    simp only []
    rw [rdRep_all (fun y hy => h y (by simp [hy])) r]
    rfl
theorem rdList_all {α : Type} {f : RS → α × RS} {enc : α → List Nat} {most : Nat} {xs : List α} (h : ∀ x ∈ xs, ∀ r, f (enc x ++ r, false) = (x, (r, false))) (hl : xs.length ≤ most) (hm : most < 18446744073709551616) (r : List Nat) :
    rdList f most (numB xs.length ++ (xs.flatMap enc ++ r), false) = (xs, (r, false)) := by
  unfold rdList
  rw [rdUp_num (by omega) hl]
  exact rdRep_all h r
theorem rdSt_st {s : Sta} (h : OkS s) (r : List Nat) : rdSt (stB s ++ r, false) = (s, (r, false)) := by
  obtain ⟨acc, arcs⟩ := s
  obtain ⟨h1, h2, h3⟩ := h
  simp only [] at h1 h2 h3
  unfold rdSt stB
  simp only [List.append_assoc]
  rw [rdNum_num h1]
  simp only []
  rw [rdList_all (fun a ha r => rdArc_arc (h3 a ha) r false) h2 (by decide)]
theorem rdMach_mach {m : List Sta} (hl : m.length ≤ 4096) (h : ∀ s ∈ m, OkS s) (r : List Nat) : rdMach (numB m.length ++ (m.flatMap stB ++ r), false) = (m, (r, false)) :=
  rdList_all (fun s hs r => rdSt_st (h s hs) r) hl (by decide) r
/-- What is read is told so. -/
def SoundR {α : Type} (f : RS → α × RS) (enc : α → List Nat) (ok : α → Prop) : Prop := ∀ s : RS, (∀ x ∈ s.1, x < 256) → (f s).2.2 = false → s.2 = false ∧ s.1 = enc (f s).1 ++ (f s).2.1 ∧ ok (f s).1
theorem rdNum_sound : SoundR rdNum numB (fun n => n < 18446744073709551616) := by
  intro s hb h
  unfold rdNum at h ⊢
  by_cases h0 : (valB s.1).2 = 0
  · rw [if_pos h0] at h; cases h
  · rw [if_neg h0] at h ⊢
    exact ⟨h, (valB_yes hb h0).2, valB_lt _⟩
theorem rdUp_sound (most : Nat) : SoundR (rdUp most) numB (fun n => n < 18446744073709551616 ∧ n ≤ most) := by
  intro s hb h
  unfold rdUp at h ⊢
  by_cases h0 : most < (rdNum s).1
  · rw [if_pos h0] at h; cases h
  · rw [if_neg h0] at h ⊢
    obtain ⟨h1, h2, h3⟩ := rdNum_sound s hb h
    exact ⟨h1, h2, h3, by omega⟩
theorem rdOne_sound : SoundR rdOne (fun b => [b]) (fun b => b < 256) := by
  intro s hb h
  obtain ⟨l, e⟩ := s
  cases l with
  | nil => cases h
  | cons b l => exact ⟨h, rfl, hb b (by simp)⟩
theorem rest_bytes {l a r : List Nat} (h : l = a ++ r) (hb : ∀ x ∈ l, x < 256) : ∀ x ∈ r, x < 256 := fun x hx => hb x (by rw [h]; exact List.mem_append_right _ hx)
theorem rdArc_sound : SoundR rdArc arB OkA := by
  intro s hb h
  unfold rdArc at h ⊢
  simp only [] at h ⊢
  have hb1 : ∀ x ∈ (rdOne s).2.1, x < 256 := by
    obtain ⟨l, e⟩ := s
    cases l with
    | nil => intro x hx; cases hx
    | cons b l => intro x hx; exact hb x (List.mem_cons_of_mem _ hx)
  have hb2 : ∀ x ∈ (rdOne (rdOne s).2).2.1, x < 256 := by
    generalize (rdOne s).2 = q at *
    obtain ⟨l, e⟩ := q
    cases l with
    | nil => intro x hx; cases hx
    | cons b l => intro x hx; exact hb1 x (List.mem_cons_of_mem _ hx)
  obtain ⟨u1, u2, u3, u4⟩ := rdUp_sound 4096 _ hb2 h
  obtain ⟨v1, v2, v3⟩ := rdOne_sound _ hb1 u1
  obtain ⟨w1, w2, w3⟩ := rdOne_sound _ hb v1
  refine ⟨w1, ?_, w3, v3, by simp only []; omega, by simp only []; omega⟩
  unfold arB
  simp only [Int.toNat_natCast]
  rw [List.cons_append, List.cons_append, ← u2]
  rw [w2, v2]
  simp only [List.singleton_append]
theorem rdRep_sound {α : Type} {f : RS → α × RS} {enc : α → List Nat} {ok : α → Prop} (hf : SoundR f enc ok) (hfb : ∀ s : RS, (∀ x ∈ s.1, x < 256) → ∀ x ∈ (f s).2.1, x < 256) :
    ∀ (n : Nat) (s : RS), (∀ x ∈ s.1, x < 256) → (rdRep f n s).2.2 = false → s.2 = false ∧ s.1 = (rdRep f n s).1.flatMap enc ++ (rdRep f n s).2.1 ∧ (rdRep f n s).1.length = n ∧ ∀ x ∈ (rdRep f n s).1, ok x
  | 0, s, _, h => ⟨h, rfl, rfl, fun x hx => (by cases hx)⟩
  | n + 1, s, hb, h => by
    rw [rdRep] at h ⊢
    by_cases he : s.2 = true
    · rw [if_pos he] at h; rw [he] at h; cases h
    · rw [if_neg he] at h ⊢
      simp only [] at h ⊢
      obtain ⟨i1, i2, i3, i4⟩ := rdRep_sound hf hfb n (f s).2 (hfb s hb) h
      obtain ⟨j1, j2, j3⟩ := hf s hb i1
      refine ⟨j1, ?_, by rw [List.length_cons, i3], fun x hx => ?_⟩
      · rw [List.flatMap_cons, List.append_assoc, ← i2]; exact j2
      · rcases List.mem_cons.1 hx with rfl | hx
        · exact j3
        · exact i4 x hx
/-- What is left are bytes. -/
def BytesR {α : Type} (f : RS → α × RS) : Prop := ∀ s : RS, (∀ x ∈ s.1, x < 256) → ∀ x ∈ (f s).2.1, x < 256
theorem rdNum_bytes : BytesR rdNum := by
  intro s hb x hx
  unfold rdNum at hx
  split at hx
  · cases hx
  · exact hb x (List.mem_of_mem_drop hx)
theorem rdUp_bytes (most : Nat) : BytesR (rdUp most) := by
  intro s hb x hx
  unfold rdUp at hx
  split at hx
  · cases hx
  · exact rdNum_bytes s hb x hx
theorem rdOne_bytes : BytesR rdOne := by
  intro s hb x hx
  obtain ⟨l, e⟩ := s
  cases l with
  | nil => cases hx
  | cons b l => exact hb x (List.mem_cons_of_mem _ hx)
theorem rdArc_bytes : BytesR rdArc := fun s hb x hx => rdUp_bytes 4096 _ (rdOne_bytes _ (rdOne_bytes s hb)) x hx
theorem rdRep_bytes {α : Type} {f : RS → α × RS} (hf : BytesR f) : ∀ n, BytesR (rdRep f n)
  | 0 => fun s hb x hx => hb x hx
  | n + 1 => fun s hb x hx => by
    rw [rdRep] at hx
    split at hx
    · exact hb x hx
    · exact rdRep_bytes hf n _ (hf s hb) x hx
theorem rdList_bytes {α : Type} {f : RS → α × RS} (hf : BytesR f) (most : Nat) : BytesR (rdList f most) := fun s hb x hx => rdRep_bytes hf _ _ (rdUp_bytes most s hb) x hx
theorem rdSt_bytes : BytesR rdSt := fun s hb x hx => rdList_bytes rdArc_bytes 256 _ (rdNum_bytes s hb) x hx
theorem rdMach_bytes : BytesR rdMach := rdList_bytes rdSt_bytes 4096
theorem rdList_sound {α : Type} {f : RS → α × RS} {enc : α → List Nat} {ok : α → Prop} (hf : SoundR f enc ok) (hfb : BytesR f) (most : Nat) :
    SoundR (rdList f most) (fun xs => numB xs.length ++ xs.flatMap enc) (fun xs => xs.length ≤ most ∧ ∀ x ∈ xs, ok x) := by
  intro s hb h
  unfold rdList at h ⊢
  obtain ⟨i1, i2, i3, i4⟩ := rdRep_sound hf hfb _ _ (rdUp_bytes most s hb) h
  obtain ⟨j1, j2, j3, j4⟩ := rdUp_sound most s hb i1
  refine ⟨j1, ?_, by rw [i3]; exact j4, i4⟩
  simp only []
  rw [i3, List.append_assoc, ← i2]
  exact j2
theorem rdSt_sound : SoundR rdSt stB OkS := by
  intro s hb h
  unfold rdSt at h ⊢
  simp only [] at h ⊢
  obtain ⟨i1, i2, i3, i4⟩ := rdList_sound rdArc_sound rdArc_bytes 256 _ (rdNum_bytes s hb) h
  obtain ⟨j1, j2, j3⟩ := rdNum_sound s hb i1
  refine ⟨j1, ?_, j3, i3, i4⟩
  unfold stB
  simp only []
  rw [List.append_assoc, ← i2]
  exact j2
theorem rdMach_sound : SoundR rdMach (fun m => numB m.length ++ m.flatMap stB) (fun m => m.length ≤ 4096 ∧ ∀ s ∈ m, OkS s) := rdList_sound rdSt_sound rdSt_bytes 4096
/-- Get. -/
def headB : List Nat := [68, 70, 65, 49]
def sealedB (b : List Nat) : Bool := decide (4 ≤ b.length) && decide (fourB (sumB (b.take (b.length - 4))) = b.drop (b.length - 4))
def getB (b : List Nat) : Option (List Sta) :=
  if sealedB b = true ∧ headB <+: b.take (b.length - 4) then
    (if (rdMach ((b.take (b.length - 4)).drop 4, false)).2.2 = false ∧ (rdMach ((b.take (b.length - 4)).drop 4, false)).2.1 = [] ∧ checkB (rdMach ((b.take (b.length - 4)).drop 4, false)).1 = true then some (rdMach ((b.take (b.length - 4)).drop 4, false)).1 else none)
  else none
theorem putB_len (m : List Sta) : (putB m).length = (bodyB m).length + 4 := by unfold putB; rw [List.length_append, fourB_len]
theorem putB_take (m : List Sta) : (putB m).take ((putB m).length - 4) = bodyB m := by
  rw [putB_len, Nat.add_sub_cancel]; unfold putB; exact List.take_left
theorem putB_drop (m : List Sta) : (putB m).drop ((putB m).length - 4) = fourB (sumB (bodyB m)) := by
  rw [putB_len, Nat.add_sub_cancel]; unfold putB; exact List.drop_left
theorem bodyB_drop (m : List Sta) : (bodyB m).drop 4 = numB m.length ++ m.flatMap stB := rfl
theorem getB_put {m : List Sta} (h : checkB m = true) (hm : Mays m) : getB (putB m) = some m := by
  have hr := rdMach_mach (good_len h) (good_st h hm) []
  rw [List.append_nil] at hr
  unfold getB
  have hs : sealedB (putB m) = true := by
    unfold sealedB
    rw [putB_take, putB_drop, Bool.and_eq_true, decide_eq_true_eq, decide_eq_true_eq, putB_len]
    exact ⟨by omega, rfl⟩
  have hp : headB <+: bodyB m := List.prefix_append _ _
  rw [putB_take, bodyB_drop, hr, if_pos ⟨hs, hp⟩, if_pos ⟨rfl, rfl, h⟩]
theorem getB_some {b : List Nat} {m : List Sta} (hb : ∀ x ∈ b, x < 256) (h : getB b = some m) : checkB m = true ∧ Mays m ∧ putB m = b := by
  unfold getB at h
  split at h
  · rename_i h1
    split at h
    · rename_i h2
      injection h with h
      obtain ⟨g1, g2⟩ := h1
      obtain ⟨e1, e2, e3⟩ := h2
      have hbb : ∀ x ∈ (b.take (b.length - 4)).drop 4, x < 256 := fun x hx => hb x (List.mem_of_mem_take (List.mem_of_mem_drop hx))
      obtain ⟨_, i2, i3, i4⟩ := rdMach_sound ((b.take (b.length - 4)).drop 4, false) hbb e1
      rw [h] at e3 i2 i3 i4
      rw [e2, List.append_nil] at i2
      simp only [] at i2
      have hbody : bodyB m = b.take (b.length - 4) := by
        obtain ⟨t, ht⟩ := g2
        rw [← ht] at i2 ⊢
        rw [show (headB ++ t).drop 4 = t from rfl] at i2
        rw [i2]; rfl
      refine ⟨e3, okS_mays i4, ?_⟩
      unfold sealedB at g1
      rw [Bool.and_eq_true, decide_eq_true_eq, decide_eq_true_eq] at g1
      unfold putB
      rw [hbody, g1.2, List.take_append_drop]
    · cases h
  · cases h
theorem getB_iff {b : List Nat} {m : List Sta} (hb : ∀ x ∈ b, x < 256) : getB b = some m ↔ checkB m = true ∧ Mays m ∧ putB m = b :=
  ⟨getB_some hb, fun ⟨h1, h2, h3⟩ => by rw [← h3]; exact getB_put h1 h2⟩
/-! The reference's reading. -/
def rfA : Nat → List Nat → List Arc3 × List Nat
  | 0, s => ([], s)
  | n + 1, s => if 2 < s.length then (⟨s[0]?.getD 0, s[1]?.getD 0, (min (valB (s.drop 2)).1 4096 : Nat)⟩ :: (rfA n (s.drop (2 + (valB (s.drop 2)).2))).1, (rfA n (s.drop (2 + (valB (s.drop 2)).2))).2) else ([], s)
def rfCut (s : List Nat) : List Nat := s.drop (valB s).2
def rfSt (s : List Nat) : Sta × List Nat := (⟨(valB s).1, (rfA (min (valB (rfCut s)).1 256) (rfCut (rfCut s))).1⟩, (rfA (min (valB (rfCut s)).1 256) (rfCut (rfCut s))).2)
def rfS : Nat → List Nat → List Sta × List Nat
  | 0, s => ([], s)
  | n + 1, s => ((rfSt s).1 :: (rfS n (rfSt s).2).1, (rfS n (rfSt s).2).2)
def rfM (s : List Nat) : List Sta := (rfS (min (valB s).1 4097) (rfCut s)).1
def rfGet (b : List Nat) : Option (List Sta) := if 5 ≤ b.length ∧ b.take 4 = headB then (if checkB (rfM (b.drop 4)) = true ∧ putB (rfM (b.drop 4)) = b then some (rfM (b.drop 4)) else none) else none
theorem rfCut_num {n : Nat} (h : n < 18446744073709551616) (r : List Nat) : rfCut (numB n ++ r) = r := by unfold rfCut; rw [valB_num h]; exact List.drop_left
theorem rfA_all : ∀ {l : List Arc3} (_ : ∀ a ∈ l, OkA a) (r : List Nat), rfA l.length (l.flatMap arB ++ r) = (l, r)
  | [], _, _ => rfl
  | a :: l, h, r => by
    obtain ⟨h1, h2, h3, h4⟩ := h a (by simp)
    have ih := rfA_all (fun x hx => h x (List.mem_cons_of_mem _ hx)) r
    have hv := valB_num (n := a.dest.toNat) (by omega) (l.flatMap arB ++ r)
    rw [List.length_cons, List.flatMap_cons, List.append_assoc, show arB a ++ (l.flatMap arB ++ r) = a.lo :: a.hi :: (numB a.dest.toNat ++ (l.flatMap arB ++ r)) from rfl, rfA]
    have hd : (a.lo :: a.hi :: (numB a.dest.toNat ++ (l.flatMap arB ++ r))).drop 2 = numB a.dest.toNat ++ (l.flatMap arB ++ r) := rfl
    have hd2 : (a.lo :: a.hi :: (numB a.dest.toNat ++ (l.flatMap arB ++ r))).drop (2 + (numB a.dest.toNat).length) = l.flatMap arB ++ r := by
      rw [← List.drop_drop, hd, List.drop_left]
    rw [if_pos (by simp only [List.length_cons, List.length_append]; have := numB_pos a.dest.toNat; omega), hd, hv]
    simp only []
    rw [hd2, ih, Nat.min_eq_left (by omega), Int.toNat_of_nonneg h3]
    rfl
theorem rfSt_st {s : Sta} (h : OkS s) (r : List Nat) : rfSt (stB s ++ r) = (s, r) := by
  obtain ⟨h1, h2, h3⟩ := h
  unfold rfSt stB
  rw [List.append_assoc, valB_num h1, rfCut_num h1, List.append_assoc, valB_num (by omega), rfCut_num (by omega)]
  simp only []
  rw [Nat.min_eq_left h2, rfA_all h3]
theorem rfS_all : ∀ {m : List Sta} (_ : ∀ s ∈ m, OkS s) (r : List Nat), rfS m.length (m.flatMap stB ++ r) = (m, r)
  | [], _, _ => rfl
  | s :: m, h, r => by
    rw [List.length_cons, List.flatMap_cons, List.append_assoc, rfS, rfSt_st (h s (by simp))]
    simp only []
    rw [rfS_all (fun x hx => h x (List.mem_cons_of_mem _ hx))]
theorem rfM_put {m : List Sta} (hl : m.length ≤ 4096) (h : ∀ s ∈ m, OkS s) : rfM ((putB m).drop 4) = m := by
  have e : (putB m).drop 4 = numB m.length ++ (m.flatMap stB ++ fourB (sumB (bodyB m))) := by
    unfold putB
    rw [List.drop_append_of_le_length (by unfold bodyB; simp), bodyB_drop, List.append_assoc]
  unfold rfM
  rw [e, valB_num (by omega), rfCut_num (by omega)]
  simp only []
  rw [Nat.min_eq_left (by omega), rfS_all h]
theorem rfA_ok : ∀ (n : Nat) (s : List Nat), (∀ x ∈ s, x < 256) → (∀ a ∈ (rfA n s).1, OkA a) ∧ (rfA n s).1.length ≤ n ∧ ∀ x ∈ (rfA n s).2, x < 256
  | 0, s, hb => ⟨fun a ha => (by cases ha), Nat.le_refl _, hb⟩
  | n + 1, s, hb => by
    rw [rfA]
    by_cases h : 2 < s.length
    · rw [if_pos h]
      obtain ⟨h1, h2, h3⟩ := rfA_ok n (s.drop (2 + (valB (s.drop 2)).2)) fun x hx => hb x (List.mem_of_mem_drop hx)
      refine ⟨fun a ha => ?_, by rw [List.length_cons]; omega, h3⟩
      rcases List.mem_cons.1 ha with rfl | ha
      · rw [List.getElem?_eq_getElem (show 0 < s.length by omega), List.getElem?_eq_getElem (show 1 < s.length by omega)]
        exact ⟨hb _ (List.getElem_mem _), hb _ (List.getElem_mem _), by simp only []; omega, by simp only []; omega⟩
      · exact h1 a ha
    · rw [if_neg h]; exact ⟨fun a ha => (by cases ha), Nat.zero_le _, hb⟩
theorem rfCut_bytes {s : List Nat} (hb : ∀ x ∈ s, x < 256) : ∀ x ∈ rfCut s, x < 256 := fun x hx => hb x (List.mem_of_mem_drop hx)
theorem rfS_ok : ∀ (n : Nat) (s : List Nat), (∀ x ∈ s, x < 256) → (∀ a ∈ (rfS n s).1, OkS a) ∧ (rfS n s).1.length = n
  | 0, _, _ => ⟨fun a ha => (by cases ha), rfl⟩
  | n + 1, s, hb => by
    obtain ⟨h1, h2, h3⟩ := rfA_ok (min (valB (rfCut s)).1 256) (rfCut (rfCut s)) (rfCut_bytes (rfCut_bytes hb))
    obtain ⟨i1, i2⟩ := rfS_ok n (rfSt s).2 h3
    rw [rfS]
    refine ⟨fun a ha => ?_, by rw [List.length_cons, i2]⟩
    rcases List.mem_cons.1 ha with rfl | ha
    · exact ⟨valB_lt _, by unfold rfSt; simp only []; omega, h1⟩
    · exact i1 a ha
theorem rfM_ok {s : List Nat} (hb : ∀ x ∈ s, x < 256) : (∀ a ∈ rfM s, OkS a) ∧ (rfM s).length ≤ 4097 := by
  obtain ⟨h1, h2⟩ := rfS_ok (min (valB s).1 4097) (rfCut s) (rfCut_bytes hb)
  exact ⟨h1, by unfold rfM; omega⟩
theorem rfGet_is {b : List Nat} (hb : ∀ x ∈ b, x < 256) : rfGet b = getB b := by
  apply Option.ext
  intro m
  rw [getB_iff hb]
  constructor
  · intro h
    unfold rfGet at h
    split at h
    · split at h
      · rename_i h2
        injection h with h
        have hok := (rfM_ok (s := b.drop 4) fun x hx => hb x (List.mem_of_mem_drop hx)).1
        rw [h] at h2 hok
        exact ⟨h2.1, okS_mays hok, h2.2⟩
      · cases h
    · cases h
  · rintro ⟨h1, h2, rfl⟩
    have hg := rfM_put (good_len h1) (good_st h1 h2)
    unfold rfGet
    have h5 : 5 ≤ (putB m).length ∧ (putB m).take 4 = headB := by
      refine ⟨?_, ?_⟩
      · rw [putB_len]; unfold bodyB; simp
      · unfold putB bodyB; rfl
    rw [hg, if_pos h5, if_pos ⟨h1, rfl⟩]
/-- What is turned or cut is no machine's. -/
theorem getB_sealed {b : List Nat} (h : sealedB b = false) : getB b = none := by
  unfold getB
  rw [if_neg (by rw [h]; exact fun h => by cases h.1)]
theorem turned_none {m : List Sta} (h : checkB m = true) (hm : Mays m) {k y : Nat} (hk : k < (putB m).length) (hy : y < 256) (hne : y ≠ (putB m)[k]) : getB ((putB m).set k y) = none := by
  apply getB_sealed
  rw [Bool.eq_false_iff]
  intro hs
  unfold sealedB at hs
  rw [Bool.and_eq_true, decide_eq_true_eq, decide_eq_true_eq, List.length_set] at hs
  have h2 := hs.2
  rw [List.take_set, putB_take, List.drop_set, putB_drop] at h2
  by_cases hk2 : k < (bodyB m).length
  · rw [if_pos (by rw [putB_len]; omega)] at h2
    have h3 := fourB_inj (sumB_lt _) (sumB_lt _) h2
    have h4 := sumB_turned (bodyB_bytes (good_st h hm)) hk2 hy h3
    apply hne
    rw [← h4]
    exact (List.getElem_append_left hk2).symm
  · rw [List.set_eq_of_length_le (by omega), if_neg (by rw [putB_len]; omega)] at h2
    have hl := putB_len m
    have h3 : (fourB (sumB (bodyB m)))[k - ((putB m).length - 4)]? = ((fourB (sumB (bodyB m))).set (k - ((putB m).length - 4)) y)[k - ((putB m).length - 4)]? := congrArg (fun l : List Nat => l[k - ((putB m).length - 4)]?) h2
    rw [List.getElem?_set_self (by rw [fourB_len]; omega)] at h3
    apply hne
    have h4 : (putB m)[k]? = (fourB (sumB (bodyB m)))[k - ((putB m).length - 4)]? := by
      conv => lhs; unfold putB
      rw [List.getElem?_append_right (by omega), hl, Nat.add_sub_cancel]
    rw [h3, List.getElem?_eq_getElem hk] at h4
    exact (Option.some.inj h4).symm
theorem cut_none {m : List Sta} (h : checkB m = true) (hm : Mays m) {k : Nat} (hk : k < (putB m).length) : getB ((putB m).take k) = none := by
  have hb := putB_bytes (good_st h hm)
  cases hg : getB ((putB m).take k) with
  | none => rfl
  | some m' =>
    exfalso
    obtain ⟨g1, g2, g3⟩ := getB_some (fun x hx => hb x (List.mem_of_mem_take hx)) hg
    have e := List.take_append_drop k (putB m)
    rw [← g3] at e
    have e1 : (putB m).drop 4 = numB m.length ++ (m.flatMap stB ++ fourB (sumB (bodyB m))) := by
      unfold putB
      rw [List.drop_append_of_le_length (by unfold bodyB; simp), bodyB_drop, List.append_assoc]
    have e2 : (putB m).drop 4 = numB m'.length ++ (m'.flatMap stB ++ (fourB (sumB (bodyB m')) ++ (putB m).drop k)) := by
      generalize (putB m).drop k = R at *
      rw [← e]
      unfold putB
      rw [List.append_assoc, List.drop_append_of_le_length (by unfold bodyB; simp), bodyB_drop, List.append_assoc]
    have r1 := rdMach_mach (good_len h) (good_st h hm) (fourB (sumB (bodyB m)))
    have r2 := rdMach_mach (good_len g1) (good_st g1 g2) (fourB (sumB (bodyB m')) ++ (putB m).drop k)
    rw [← e1] at r1
    rw [← e2, r1] at r2
    have h5 := congrArg (fun x => x.2.1.length) r2
    simp only [List.length_append, fourB_len, List.length_drop] at h5
    omega
end Go.Proofs.Ytmhjabodhgacnaa
