/- Texts that a proof rests on: What a small machine reaches, by a check that can be computed; the law's examples. | Build's contract for a pattern that has a machine, and for one that has none; the law's examples hold. | The law's examples hold. -/
import Derived.Test.YtpfhhdiipedklaaDoorK26
set_option maxRecDepth 100000
namespace Go.Proofs.YtpfhhdiipedklaaDoor
open Go.RowKit

/-- Are these just the states that are reached? -/
def okT (n : Nat) (E : List (Nat × Nat)) (L : List Int) (T : List Nat) : Bool :=
  (L.all fun x => !(decide (0 ≤ x) && decide (x < n)) || T.contains x.toNat) && (E.all fun e => !(T.contains e.1 && decide (e.2 < n)) || T.contains e.2) &&
  ((List.range T.length).all fun i => match T[i]? with
    | none => true
    | some t => decide (t < n) && (L.any (fun x => decide (x = (t : Int))) || E.any (fun e => decide (e.2 = t) && (T.take i).contains e.1)))
theorem okT_reach {n : Nat} {E : List (Nat × Nat)} {L : List Int} {T : List Nat} (h : okT n E L T = true) (s : Nat) : Reach n E L s ↔ s ∈ T := by
  unfold okT at h
  rw [Bool.and_eq_true, Bool.and_eq_true, List.all_eq_true, List.all_eq_true, List.all_eq_true] at h
  obtain ⟨⟨h1, h2⟩, h3⟩ := h
  constructor
  · intro hr
    induction hr with
    | @base x hx h0 hn =>
      have := h1 x hx
      simp [h0, hn] at this
      exact this
    | @step a b _ he hb ih =>
      have := h2 (a, b) he
      simp [ih, hb] at this
      exact this
  · have h4 : ∀ i : Nat, ∀ t : Nat, T[i]? = some t → Reach n E L t := by
      intro i
      induction i using Nat.strongRecOn with | _ i ih => ?_
      intro t ht
      have hi : i < T.length := by
        rcases Nat.lt_or_ge i T.length with h | h
        · exact h
        · rw [List.getElem?_eq_none h] at ht; cases ht
      have := h3 i (by simpa using hi)
      rw [ht] at this
      simp only [Bool.and_eq_true, decide_eq_true_eq, Bool.or_eq_true, List.any_eq_true] at this
      obtain ⟨hn, ⟨x, hx, rfl⟩ | ⟨e, he, e1, e2⟩⟩ := this
      · have := Reach.base (n := n) (E := E) hx (by omega) (by omega)
        simpa using this
      · have e3 : e.1 ∈ T.take i := by simpa using e2
        obtain ⟨j, hj, e4⟩ := List.getElem_of_mem e3
        rw [List.length_take] at hj
        have e5 : T[j]? = some e.1 := by
          rw [List.getElem_take] at e4
          rw [List.getElem?_eq_getElem (by omega), e4]
        have := ih j (by omega) e.1 e5
        subst e1
        exact .step this he hn
    intro hs
    obtain ⟨i, hi, e⟩ := List.getElem_of_mem hs
    exact h4 i s (by rw [List.getElem?_eq_getElem hi, e])
/-- Are these the rows of states behind each byte? -/
def okTs (n : Nat) (E : List (Nat × Nat)) (A : List (Nat × Nat × BitVec 256)) : List Nat → List Nat → List (List Nat) → Bool
  | _, [], Ts => Ts.isEmpty
  | T, b :: bs, T' :: Ts => okT n E (stepT A b (T.map fun x : Nat => (x : Int))) T' && okTs n E A T' bs Ts
  | _, _ :: _, [] => false
theorem okTs_fold {n : Nat} {E : List (Nat × Nat)} {A : List (Nat × Nat × BitVec 256)} : ∀ (bs : List Nat) (T : List Nat) (Ts : List (List Nat)) (P : Nat → Prop), okTs n E A T bs Ts = true → (∀ s, s ∈ T ↔ P s) → ∀ s, bs.foldl (Next n E A) P s ↔ s ∈ (Ts.getLast?.getD T)
  | [], T, Ts, P, h, hP, s => by
    have : Ts = [] := by simpa [okTs] using h
    subst this
    exact (hP s).symm
  | b :: bs, T, [], P, h, hP, s => by simp [okTs] at h
  | b :: bs, T, T' :: Ts, P, h, hP, s => by
    rw [okTs, Bool.and_eq_true] at h
    have h1 : ∀ s, s ∈ T' ↔ Next n E A P b s := fun s => (okT_reach h.1 s).symm.trans (next_row hP s)
    have := okTs_fold bs T' Ts (Next n E A P b) h.2 h1 s
    rw [List.foldl_cons, this]
    cases Ts with
    | nil => simp
    | cons a rs =>
      rw [List.getLast?_cons_cons]
      simp [List.getLast?_cons]
theorem after_of {n : Nat} {E : List (Nat × Nat)} {A : List (Nat × Nat × BitVec 256)} {T : List Nat} {Ts : List (List Nat)} {bs : List Nat} (h0 : okT n E [0] T = true) (h : okTs n E A T bs Ts = true) (s : Nat) : After n E A bs s ↔ s ∈ (Ts.getLast?.getD T) :=
  okTs_fold bs T Ts (Reach n E [0]) h (fun s => (okT_reach h0 s).symm) s
/-- Two rising rows of the same numbers are one. -/
theorem rise_same : ∀ {l m : List Nat}, l.Pairwise (· < ·) → m.Pairwise (· < ·) → (∀ s, s ∈ l ↔ s ∈ m) → l = m
  | [], [], _, _, _ => rfl
  | [], b :: bs, _, _, h => absurd ((h b).2 (by simp)) (by simp)
  | a :: rs, [], _, _, h => absurd ((h a).1 (by simp)) (by simp)
  | a :: rs, b :: bs, ha, hb, h => by
    have ha' := List.pairwise_cons.1 ha
    have hb' := List.pairwise_cons.1 hb
    have e : a = b := by
      rcases List.mem_cons.1 ((h a).1 (by simp)) with e | h1
      · exact e
      · rcases List.mem_cons.1 ((h b).2 (by simp)) with e | h2
        · exact e.symm
        · have := hb'.1 a h1
          have := ha'.1 b h2
          omega
    subst e
    rw [rise_same ha'.2 hb'.2 fun s => ?_]
    constructor
    · intro hs
      rcases List.mem_cons.1 ((h s).1 (List.mem_cons_of_mem _ hs)) with e | h1
      · have := ha'.1 s hs; omega
      · exact h1
    · intro hs
      rcases List.mem_cons.1 ((h s).2 (List.mem_cons_of_mem _ hs)) with e | h1
      · have := hb'.1 s hs; omega
      · exact h1
/-- The law's example: once or more ab. -/
def abP : Pat := .mk 3 0 1 (-1) [litP ⟨#[97, 98]⟩]
def abE : List (Nat × Nat) := [(2, 4), (5, 6), (7, 3), (0, 2), (8, 10), (11, 12), (13, 9), (3, 8), (9, 8), (9, 1), (3, 1)]
def abA : List (Nat × Nat × BitVec 256) := [(4, 5, put 0 97), (6, 7, put 0 98), (10, 11, put 0 97), (12, 13, put 0 98)]
theorem ab_bld : bld abP M0 = ⟨14, abE, abA⟩ := by kernel_rfl
theorem ab_start : okT 14 abE [0] [0, 2, 4] = true := by kernel_rfl
theorem ab_all : goesB 14 abE abA ⟨#[97, 98, 97, 98]⟩ = true := goesB_true.2 ((after_of (T := [0, 2, 4]) (Ts := [[5, 6], [7, 3, 8, 1, 10], [11, 12], [13, 9, 8, 1, 10]]) ab_start (by kernel_rfl) 1).2 (by simp))
theorem ab_part : goesB 14 abE abA ⟨#[97, 98, 97]⟩ = false := by
  rw [Bool.eq_false_iff]
  intro h
  have := (after_of (T := [0, 2, 4]) (Ts := [[5, 6], [7, 3, 8, 1, 10], [11, 12]]) ab_start (by kernel_rfl) 1).1 (goesB_true.1 h)
  simp at this
theorem ab_close {l : List Nat} (h : l.Pairwise (· < ·) ∧ ∀ s, s ∈ l ↔ Reach 14 abE [0] s) : l.length = 3 := by
  have e : l = [0, 2, 4] := rise_same h.1 (by decide) fun s => (h.2 s).trans (okT_reach ab_start s)
  rw [e]; rfl
theorem ab_closed {l : List Nat} (h : l.Pairwise (· < ·) ∧ ∀ s, s ∈ l ↔ Reach 14 abE [0] s) : l = [0, 2, 4] := rise_same h.1 (by decide) fun s => (h.2 s).trans (okT_reach ab_start s)
theorem ab_step {l m : List Nat} (h : l = [0, 2, 4]) (hm : m.Pairwise (· < ·) ∧ ∀ s, s ∈ m ↔ Reach 14 abE (stepT abA 97 (l.map fun x : Nat => (x : Int))) s) : m.length = 2 := by
  subst h
  have e : m = [5, 6] := rise_same hm.1 (by decide) fun s => (hm.2 s).trans (okT_reach (by kernel_rfl) s)
  rw [e]; rfl
/-- The set of the law's example. -/
def s4 : BitVec 256 := 0x0000000000000004000000000000000300000000000000020000000000000001#256
def s4P : Pat := .mk 0 s4 0 0 []
theorem s4_bld : bld s4P M0 = ⟨2, [], [(0, 1, s4)]⟩ := by kernel_rfl
theorem s4_0 : wd s4 0 = 1 := by decide
theorem s4_1 : wd s4 1 = 2 := by decide
theorem s4_2 : wd s4 2 = 3 := by decide
theorem s4_3 : wd s4 3 = 4 := by decide
end Go.Proofs.YtpfhhdiipedklaaDoor
set_option maxRecDepth 100000
namespace Go.Proofs.YtpfhhdiipedklaaDoor
open Go.RowKit

/-- What Build gives for a pattern that has a machine. -/
def HasM (cnt : Nat) (E : List (Nat × Nat)) (A : List (Nat × Nat × BitVec 256)) (N : Nat) (w : World) (e : Ending) (w' : World) : Prop :=
  ∃ ae ce aa ca, e = .returned (.tuple #[.agg #[.int .i64 cnt, .slice ae E.length ce, .slice aa A.length ca, .int .i64 0, .int .i64 1], .int .i64 0]) ∧ Hid (RowE w' (.slice ae E.length ce) E) ∧ Hid (RowA w' (.slice aa A.length ca) A) ∧ Hid (Below N w w')
theorem nbuild_yes (p : Pat) (ks : Value) (w : World) (hs : p.size ≤ 5000) (hk : Kids w p.kids ks) (hf : p.fit 1 = true) (hp : p.pln = true) (hst : p.sta ≤ 4096) :
    Calls Tryd.prog 8 #[(.agg #[.int .i64 p.op, .int .u64 (wd p.set 0), .int .u64 (wd p.set 1), .int .u64 (wd p.set 2), .int .u64 (wd p.set 3), .int .i64 p.lo, .int .i64 p.hi, ks])] w (HasM p.cnt (bld p M0).e (bld p M0).a w.heap.size w) := by
  refine (nbuild_any p ks w hs hk).mono ?_
  rintro e w' (⟨h | h, _⟩ | ⟨_, _, h, _⟩ | ⟨_, _, _, ve, va, rfl, he, ha, hb⟩)
  · rw [hf] at h; cases h
  · rw [hp] at h; cases h
  · omega
  · obtain ⟨ae, ce, rfl⟩ := he.out.form
    obtain ⟨aa, ca, rfl⟩ := ha.out.form
    exact ⟨ae, ce, aa, ca, rfl, he, ha, hb⟩
theorem nbuild_great (p : Pat) (ks : Value) (w : World) (hs : p.size ≤ 5000) (hk : Kids w p.kids ks) (hf : p.fit 1 = true) (hp : p.pln = true) (hst : 4096 < p.sta) :
    Calls Tryd.prog 8 #[(.agg #[.int .i64 p.op, .int .u64 (wd p.set 0), .int .u64 (wd p.set 1), .int .u64 (wd p.set 2), .int .u64 (wd p.set 3), .int .i64 p.lo, .int .i64 p.hi, ks])] w fun e w' => e = .returned (.tuple #[.agg #[.int .i64 0, .slice none 0 0, .slice none 0 0, .int .i64 0, .int .i64 0], .int .i64 70]) ∧ Below w.heap.size w w' := by
  refine (nbuild_any p ks w hs hk).mono ?_
  rintro e w' (⟨h | h, _⟩ | ⟨_, _, h, rfl, hb⟩ | ⟨_, _, h, _⟩)
  · rw [hf] at h; cases h
  · rw [hp] at h; cases h
  · exact ⟨rfl, hb⟩
  · omega
theorem nbuild_none (p : Pat) (ks : Value) (w : World) (hs : p.size ≤ 5000) (hk : Kids w p.kids ks) (hp : p.pln = false) :
    Calls Tryd.prog 8 #[(.agg #[.int .i64 p.op, .int .u64 (wd p.set 0), .int .u64 (wd p.set 1), .int .u64 (wd p.set 2), .int .u64 (wd p.set 3), .int .i64 p.lo, .int .i64 p.hi, ks])] w fun e w' => e = .returned (.tuple #[.agg #[.int .i64 0, .slice none 0 0, .slice none 0 0, .int .i64 0, .int .i64 0], .int .i64 1]) ∧ Below w.heap.size w w' := by
  refine (nbuild_any p ks w hs hk).mono ?_
  rintro e w' (⟨_, rfl, hb⟩ | ⟨_, h, _⟩ | ⟨_, h, _⟩)
  · exact ⟨rfl, hb⟩
  · rw [hp] at h; cases h
  · rw [hp] at h; cases h
theorem set_s4 (w : World) : Calls Tryd.prog 19 #[.agg #[.int .u64 1, .int .u64 2, .int .u64 3, .int .u64 4]] w fun e w' => e = .returned (.agg #[.int .i64 0, .int .u64 1, .int .u64 2, .int .u64 3, .int .u64 4, .int .i64 0, .int .i64 0, .slice none 0 0]) ∧ Below w.heap.size w w' := by
  have := rset_any s4 w
  rw [s4_0, s4_1, s4_2, s4_3] at this
  simp only [Pat.op, Pat.set, Pat.lo, Pat.hi, s4_0, s4_1, s4_2, s4_3] at this
  exact this
theorem build_s4 (w : World) : Calls Tryd.prog 8 #[.agg #[.int .i64 0, .int .u64 1, .int .u64 2, .int .u64 3, .int .u64 4, .int .i64 0, .int .i64 0, .slice none 0 0]] w fun e w' => ∃ ae ce aa ca, e = .returned (.tuple #[.agg #[.int .i64 2, .slice ae 0 ce, .slice aa 1 ca, .int .i64 0, .int .i64 1], .int .i64 0]) ∧ Below w.heap.size w w' := by
  have h := nbuild_yes s4P (.slice none 0 0) w (by decide) (Kids.nil _ _ _) (by decide) (by decide) (by decide)
  simp only [s4P, Pat.op, Pat.set, Pat.lo, Pat.hi, s4_0, s4_1, s4_2, s4_3] at h
  refine Calls.mono h ?_
  rintro e w' ⟨ae, ce, aa, ca, rfl, _, _, hb⟩
  exact ⟨ae, ce, aa, ca, rfl, hb.out⟩
theorem rep_ab (w : World) : Calls Tryd.prog 21 #[.string ⟨#[97, 98]⟩] w fun e w' => ∃ a n, e = .returned (.agg #[.int .i64 (litP ⟨#[97, 98]⟩).op, .int .u64 (wd (litP ⟨#[97, 98]⟩).set 0), .int .u64 (wd (litP ⟨#[97, 98]⟩).set 1), .int .u64 (wd (litP ⟨#[97, 98]⟩).set 2), .int .u64 (wd (litP ⟨#[97, 98]⟩).set 3), .int .i64 (litP ⟨#[97, 98]⟩).lo, .int .i64 (litP ⟨#[97, 98]⟩).hi, .slice a 2 n]) ∧ Hid (Kids w' (litP ⟨#[97, 98]⟩).kids (.slice a 2 n)) ∧ Hid (Below w.heap.size w w') := by
  refine (rlit_any ⟨#[97, 98]⟩ w (by show (2 : Nat) ≤ 1000; omega)).mono ?_
  rintro e w' ⟨ks, rfl, hk, hb⟩
  obtain ⟨a, n, rfl⟩ := hk.kids.len
  exact ⟨a, n, rfl, hk.kids, hb⟩
theorem not_none (w : World) : Calls Tryd.prog 18 #[.int .i64 5, .slice (some ⟨w.heap.size, 0, none⟩) 1 1] (w.alloc (.cells #[.int .i64 0, .int .u64 0, .int .u64 0, .int .u64 0, .int .u64 0, .int .i64 0, .int .i64 0, .slice none 0 0] 36)) fun e w' => e = .returned (.agg #[.int .i64 5, .int .u64 0, .int .u64 0, .int .u64 0, .int .u64 0, .int .i64 0, .int .i64 0, .slice (some ⟨w.heap.size, 0, none⟩) 1 1]) ∧ Hid (Kids w' [Pat.mk 0 0 0 0 []] (.slice (some ⟨w.heap.size, 0, none⟩) 1 1)) ∧ Hid (Below w.heap.size w w') := by
  have hk := Kids.one (p := Pat.mk 0 0 0 0 []) (ks := .slice none 0 0) (w := w) (Kids.nil w _ _) rfl
  simp only [Pat.op, Pat.set, Pat.lo, Pat.hi] at hk
  have h := rmany_any 5 _ _ _ hk
  simp only [Pat.op, Pat.set, Pat.lo, Pat.hi] at h
  refine Calls.mono h ?_
  rintro e w' ⟨rfl, hb⟩
  exact ⟨rfl, Lib.hid (hk.below hb), Lib.hid ((new_one w _).trans (hb.mono (new_one w _).size))⟩
theorem build_not (b : Nat) (w : World) (hk : Kids w [Pat.mk 0 0 0 0 []] (.slice (some ⟨b, 0, none⟩) 1 1)) : Calls Tryd.prog 8 #[.agg #[.int .i64 5, .int .u64 0, .int .u64 0, .int .u64 0, .int .u64 0, .int .i64 0, .int .i64 0, .slice (some ⟨b, 0, none⟩) 1 1]] w fun e w' => e = .returned (.tuple #[.agg #[.int .i64 0, .slice none 0 0, .slice none 0 0, .int .i64 0, .int .i64 0], .int .i64 1]) ∧ Below w.heap.size w w' := by
  have h := nbuild_none (Pat.mk 5 0 0 0 [Pat.mk 0 0 0 0 []]) _ w (by decide) hk (by decide)
  simp only [Pat.op, Pat.set, Pat.lo, Pat.hi] at h
  exact h
theorem rep_rep (a : Option Addr) (n : Nat) (w : World) (hk : Kids w (litP ⟨#[97, 98]⟩).kids (.slice a 2 n)) : Calls Tryd.prog 20 #[(.agg #[.int .i64 (litP ⟨#[97, 98]⟩).op, .int .u64 (wd (litP ⟨#[97, 98]⟩).set 0), .int .u64 (wd (litP ⟨#[97, 98]⟩).set 1), .int .u64 (wd (litP ⟨#[97, 98]⟩).set 2), .int .u64 (wd (litP ⟨#[97, 98]⟩).set 3), .int .i64 (litP ⟨#[97, 98]⟩).lo, .int .i64 (litP ⟨#[97, 98]⟩).hi, .slice a 2 n]), .int .i64 1, .int .i64 (-1)] w fun e w' => ∃ a n, e = .returned (.agg #[.int .i64 abP.op, .int .u64 (wd abP.set 0), .int .u64 (wd abP.set 1), .int .u64 (wd abP.set 2), .int .u64 (wd abP.set 3), .int .i64 abP.lo, .int .i64 abP.hi, .slice a 1 n]) ∧ Hid (Kids w' abP.kids (.slice a 1 n)) ∧ Hid (Below w.heap.size w w') := by
  refine (rrep_any (litP ⟨#[97, 98]⟩) _ 1 (-1) w hk).mono ?_
  rintro e w' ⟨ks, rfl, hk2, hb⟩
  obtain ⟨a, n, rfl⟩ := hk2.len
  exact ⟨a, n, rfl, hk2, hb⟩
theorem build_ab (a : Option Addr) (n : Nat) (w : World) (hk : Kids w abP.kids (.slice a 1 n)) : Calls Tryd.prog 8 #[(.agg #[.int .i64 abP.op, .int .u64 (wd abP.set 0), .int .u64 (wd abP.set 1), .int .u64 (wd abP.set 2), .int .u64 (wd abP.set 3), .int .i64 abP.lo, .int .i64 abP.hi, .slice a 1 n])] w fun e w' => ∃ ae ce aa ca, e = .returned (.tuple #[.agg #[.int .i64 14, .slice ae 11 ce, .slice aa 4 ca, .int .i64 0, .int .i64 1], .int .i64 0]) ∧ Hid (RowE w' (.slice ae 11 ce) abE) ∧ Hid (RowA w' (.slice aa 4 ca) abA) ∧ Hid (Below w.heap.size w w') := by
  have h := nbuild_yes abP _ w (by decide) hk (by kernel_rfl) (by kernel_rfl) (by decide)
  rw [ab_bld] at h
  exact h
end Go.Proofs.YtpfhhdiipedklaaDoor
set_option maxRecDepth 100000
namespace Go.Proofs.YtpfhhdiipedklaaDoor
open Go.RowKit

/-- A machine as it lies in a block. -/
def Nblk (w : World) (b n : Nat) (ve va : Value) : Prop := w.heap[b]? = some (.cells #[.int .i64 n, ve, va, .int .i64 0, .int .i64 1] 27 (0, 0))
theorem Nblk.cells {w : World} {b n : Nat} {ve va : Value} (h : Nblk w b n ve va) : w.cell? ⟨b, 0, none⟩ = some (.int .i64 n) ∧ w.cell? ⟨b, 1, none⟩ = some ve ∧ w.cell? ⟨b, 2, none⟩ = some va ∧ w.cell? ⟨b, 3, none⟩ = some (.int .i64 0) ∧ w.cell? ⟨b, 4, none⟩ = some (.int .i64 1) := by
  obtain ⟨h0, h1, h2, h3, h4, _⟩ := nfa_cells h
  exact ⟨h0, h1, h2, h3, h4⟩
theorem Nblk.below {w w' : World} {b n : Nat} {ve va : Value} (h : Nblk w b n ve va) (hb : Below w.heap.size w w') : Nblk w' b n ve va := (hb.block b (lt_of_block h)).trans h
theorem Nblk.new (w : World) (n : Nat) (ve va : Value) : Nblk (w.alloc (.cells #[.int .i64 n, ve, va, .int .i64 0, .int .i64 1] 27)) w.heap.size n ve va := heap_alloc_new w _
theorem ints_one (w : World) (x : Int) {g : Nat} (hg : w.heap.size = g) : IntsAt (w.alloc (.cells #[.int .i64 x] 3)) (.slice (some ⟨g, 0, none⟩) 1 1) [x] := ⟨_, _, rfl, fun i hi => ⟨g, 0, rfl, by
  subst hg
  obtain rfl : i = 0 := by simp at hi; omega
  exact (cell_of_row _ _ 0 _ _ _ (heap_alloc_new w _)).trans rfl⟩⟩
theorem close_ab (be ba : Option Addr) (de da : Nat) (v : Value) (L : List Int) (w : World) (hE : RowE w (.slice be 11 de) abE) (hA : RowA w (.slice ba 4 da) abA) (hL : L.length < 100000000) (hv : IntsAt w v L) (hT : Tab w) :
    Calls Tryd.prog 11 #[.agg #[.int .i64 14, .slice be 11 de, .slice ba 4 da, .int .i64 0, .int .i64 1], v] w (StatesP (Reach 14 abE L) w) := nclose_any 14 abE abA _ _ v L w (by decide) hE hA (by decide) (by decide) hL hv hT
theorem step_ab (be ba : Option Addr) (de da : Nat) (v : Value) (L : List Int) (w : World) (hE : RowE w (.slice be 11 de) abE) (hA : RowA w (.slice ba 4 da) abA) (hL : L.length ≤ 4999) (hv : IntsAt w v L) (hT : Tab w) :
    Calls Tryd.prog 14 #[.agg #[.int .i64 14, .slice be 11 de, .slice ba 4 da, .int .i64 0, .int .i64 1], v, .int .u8 97] w (StatesP (Reach 14 abE (stepT abA 97 L)) w) := nstep_any 14 abE abA _ _ v L 97 w (by decide) hE hA (by decide) (by decide) hL (by decide) hv hT
theorem whole_ab (be ba : Option Addr) (de da : Nat) (w : World) (hE : RowE w (.slice be 11 de) abE) (hA : RowA w (.slice ba 4 da) abA) (hT : Tab w) :
    Calls Tryd.prog 16 #[.agg #[.int .i64 14, .slice be 11 de, .slice ba 4 da, .int .i64 0, .int .i64 1], .string ⟨#[97, 98, 97, 98]⟩] w fun e w' => e = .returned (.bool true) ∧ Below w.heap.size w w' := by
  have h := nwhole_any 14 abE abA (.slice be 11 de) (.slice ba 4 da) ⟨#[97, 98, 97, 98]⟩ w (by decide) hE hA (by decide) (by decide) (by decide) hT
  rw [ab_all] at h
  exact h
theorem part_ab (be ba : Option Addr) (de da : Nat) (w : World) (hE : RowE w (.slice be 11 de) abE) (hA : RowA w (.slice ba 4 da) abA) (hT : Tab w) :
    Calls Tryd.prog 16 #[.agg #[.int .i64 14, .slice be 11 de, .slice ba 4 da, .int .i64 0, .int .i64 1], .string ⟨#[97, 98, 97]⟩] w fun e w' => e = .returned (.bool false) ∧ Below w.heap.size w w' := by
  have h := nwhole_any 14 abE abA (.slice be 11 de) (.slice ba 4 da) ⟨#[97, 98, 97]⟩ w (by decide) hE hA (by decide) (by decide) (by decide) hT
  rw [ab_part] at h
  exact h
set_option linter.unusedSimpArgs false in
set_option maxHeartbeats 4000000 in
theorem awake_any (w : World) (hT : Tab w) : Calls Tryd.prog 7 #[] w fun e w' => e = .returned (.bool true) ∧ Below w.heap.size w w' := by
  have HT := Lib.hid hT
  clear hT
  go_enter Tryd.func7, Tryd.ntmps7
  go_upto_region 2 with (first
    | (go_at_call 19; (with_reducible refine (set_s4 w).mono ?_); rintro e w1 ⟨rfl, hb1⟩)
    | (go_at_call 8; (with_reducible refine (build_s4 w1).mono ?_); rintro e w2 ⟨ae, ce, aa, ca, rfl, hb2⟩))
  obtain ⟨n1, hn1⟩ : ∃ n1, w2.heap.size = n1 := ⟨_, rfl⟩
  obtain ⟨w3, hw3⟩ : ∃ w3, w2.alloc (.cells #[.int .i64 2, .slice ae 0 ce, .slice aa 1 ca, .int .i64 0, .int .i64 1] 27) = w3 := ⟨_, rfl⟩
  have HX1 : Hid (Nblk w3 n1 2 (.slice ae 0 ce) (.slice aa 1 ca)) := Lib.hid (by rw [← hw3, ← hn1]; exact Nblk.new w2 2 _ _)
  have HB3 : Hid (Below w.heap.size w w3) := Lib.hid ((hb1.trans (hb2.mono hb1.size)).trans (by rw [← hw3]; exact (new_one w2 _).mono (Nat.le_trans hb1.size hb2.size)))
  rw [hw3, hn1]
  clear hw3 hn1 hb1 hb2
  go_upto_region 3 with (first
    | (go_at_call 21; (with_reducible refine (rep_ab w3).mono ?_); rintro e w4 ⟨a4, n4, rfl, HK4, HB4⟩; have HR4 := Lib.hid (rep_rep a4 n4 w4 HK4.out))
    | (go_at_call 20; (with_reducible refine HR4.out.mono ?_); rintro e w5 ⟨a5, n5, rfl, HK5, HB5⟩; have HR5 := Lib.hid (build_ab a5 n5 w5 HK5.out))
    | (go_at_call 8; (with_reducible refine HR5.out.mono ?_); rintro e w6 ⟨be, de, ba, da, rfl, HE6, HA6, HB6⟩))
  obtain ⟨n2, hn2⟩ : ∃ n2, w6.heap.size = n2 := ⟨_, rfl⟩
  obtain ⟨w7, hw7⟩ : ∃ w7, w6.alloc (.cells #[.int .i64 14, .slice be 11 de, .slice ba 4 da, .int .i64 0, .int .i64 1] 27) = w7 := ⟨_, rfl⟩
  have hb67 : Below w6.heap.size w6 w7 := by rw [← hw7]; exact new_one w6 _
  have hb37 : Below w3.heap.size w3 w7 := ((HB4.out.trans (HB5.out.mono HB4.out.size)).trans (HB6.out.mono (Nat.le_trans HB4.out.size HB5.out.size))).trans (hb67.mono (Nat.le_trans (Nat.le_trans HB4.out.size HB5.out.size) HB6.out.size))
  have HX7 : Hid (Nblk w7 n2 14 (.slice be 11 de) (.slice ba 4 da)) := Lib.hid (by rw [← hw7, ← hn2]; exact Nblk.new w6 14 _ _)
  have HE7 := Lib.hid (HE6.out.below hb67)
  have HA7 := Lib.hid (HA6.out.below hb67)
  have HX17 := Lib.hid (HX1.out.below hb37)
  have HB7 := Lib.hid (HB3.out.trans (hb37.mono HB3.out.size))
  rw [hw7, hn2]
  clear hw7 hn2 hb67 hb37 HR4 HR5 HK4 HK5 HB4 HB5 HB6 HE6 HA6 HB3 HX1
  have HM7 := Lib.hid (not_none w7)
  go_upto_region 4 with (first
    | (go_at_call 18; (with_reducible refine HM7.out.mono ?_); rintro e w8 ⟨rfl, HK8, HB8⟩; have HR8 := Lib.hid (build_not w7.heap.size w8 HK8.out))
    | (go_at_call 8; (with_reducible refine HR8.out.mono ?_); rintro e w9 ⟨rfl, hb9⟩))
  obtain ⟨w10, hw10⟩ : ∃ w10, w9.alloc (.cells #[.int .i64 0, .slice none 0 0, .slice none 0 0, .int .i64 0, .int .i64 0] 27) = w10 := ⟨_, rfl⟩
  have hb10 : Below w7.heap.size w7 w10 := (HB8.out.trans (hb9.mono HB8.out.size)).trans (by rw [← hw10]; exact (new_one w9 _).mono (Nat.le_trans HB8.out.size hb9.size))
  have HX10 := Lib.hid (HX7.out.below hb10)
  have HE10 := Lib.hid (HE7.out.below hb10)
  have HA10 := Lib.hid (HA7.out.below hb10)
  have HX110 := Lib.hid (HX17.out.below hb10)
  have HB10 := Lib.hid (HB7.out.trans (hb10.mono HB7.out.size))
  have HT10 := Lib.hid (HT.out.below HB10.out)
  rw [hw10]
  clear hw10 hb10 hb9 HM7 HR8 HK8 HB8 HX7 HE7 HA7 HX17 HB7 HT
  have hal := new_one w10 (.cells #[.int .i64 0] 3)
  have HCL := Lib.hid (close_ab be ba de da (.slice (some ⟨w10.heap.size, 0, none⟩) 1 1) [0] _ (HE10.out.below hal) (HA10.out.below hal) (by decide) (ints_one w10 0 rfl) (HT10.out.below hal))
  have HAL := Lib.hid hal
  clear hal
  obtain ⟨x0, x1, x2, x3, x4⟩ := HX10.out.cells
  go_upto_region 5 with (go_at_call 11; (with_reducible refine HCL.out.mono ?_); rintro e w11 ⟨v11, l11, rfl, HR11, HL11, HB11⟩)
  have hb11 : Below w10.heap.size w10 w11 := HAL.out.trans (HB11.out.mono HAL.out.size)
  obtain ⟨a11, c11, rfl⟩ := int_form HR11.out
  have h3 := ab_close HL11.out
  have HLE := Lib.hid (ab_closed HL11.out)
  rw [h3]
  have HI11 := Lib.hid (show IntsAt w11 (.slice a11 3 c11) (l11.map fun x : Nat => (x : Int)) by rw [← h3]; exact IntsAt.row (n := l11.length) (by rw [List.map_map]; exact HR11.out))
  have HX11 := Lib.hid (HX10.out.below hb11)
  have HE11 := Lib.hid (HE10.out.below hb11)
  have HA11 := Lib.hid (HA10.out.below hb11)
  have HT11 := Lib.hid (HT10.out.below hb11)
  have HB11' := Lib.hid (HB10.out.trans (hb11.mono HB10.out.size))
  obtain ⟨y0, y1, y2, _, y4⟩ := (HX110.out.below hb11).cells
  clear x0 x1 x2 x3 x4 HCL HAL HR11 HL11 HB11 HX10 HE10 HA10 HX110 HT10 HB10 hb11
  obtain ⟨x0, x1, x2, x3, x4⟩ := HX11.out.cells
  have HWA := Lib.hid (whole_ab be ba de da w11 HE11.out HA11.out HT11.out)
  have HWP := Lib.hid (fun W (hW : Below w11.heap.size w11 W) => part_ab be ba de da W (HE11.out.below hW) (HA11.out.below hW) (HT11.out.below hW))
  have HST := Lib.hid (fun W (hW : Below w11.heap.size w11 W) => step_ab be ba de da (.slice a11 3 c11) (l11.map fun x : Nat => (x : Int)) W (HE11.out.below hW) (HA11.out.below hW) (by rw [List.length_map, h3]; decide) (HI11.out.below hW) (HT11.out.below hW))
  clear h3
  go_wp2_with (first
    | (go_at_call 16; (with_reducible refine HWA.out.mono ?_); rintro e w12 ⟨rfl, hb12⟩; have HB12 := Lib.hid hb12; have HWQ := Lib.hid (HWP.out w12 hb12); clear hb12 x0 x1 x2 x3 x4; obtain ⟨x0, x1, x2, x3, x4⟩ := (HX11.out.below HB12.out).cells)
    | (go_at_call 16; (with_reducible refine HWQ.out.mono ?_); rintro e w13 ⟨rfl, hb13⟩; have HB13 := Lib.hid (HB12.out.trans (hb13.mono HB12.out.size)); have HSQ := Lib.hid (HST.out w13 HB13.out); clear hb13 x0 x1 x2 x3 x4; obtain ⟨x0, x1, x2, x3, x4⟩ := (HX11.out.below HB13.out).cells)
    | (go_at_call 14; (with_reducible refine HSQ.out.mono ?_); rintro e w14 ⟨v14, l14, rfl, HR14, HL14, HB14⟩; obtain ⟨a14, c14, rfl⟩ := int_form HR14.out; have h2 := ab_step HLE.out HL14.out; rw [h2]; have HB15 := Lib.hid (HB11'.out.trans ((HB13.out.trans (HB14.out.mono HB13.out.size)).mono HB11'.out.size)); clear HR14 HL14 HB14 h2))
  go_ret
  exact ⟨rfl, HB15.out⟩
end Go.Proofs.YtpfhhdiipedklaaDoor
