/- Texts that a proof rests on: Maps from numbers to numbers: marks. | The contract of close's visit. | What close's loop reaches. | The contract of close. | Marked states, rising, as the words of the marks give them. -/
import Derived.Test.YtpfhhdiipedklaaDoorK21
import Derived.Maps.Own
import Derived.Maps.Keyed
import Derived.Lib.TrailingZeros
set_option maxRecDepth 100000
namespace Go.Proofs.YtpfhhdiipedklaaDoor
open Go.RowKit

/-- What a map's entries have at a number: z where there is none. -/
def IsZ (z : Value) (es : Array MapEntry) (k : Int) (v : Value) : Prop := (∃ x ∈ es.toList, x.key = .int .i64 k ∧ x.val = v) ∨ ((∀ x ∈ es.toList, x.key ≠ .int .i64 k) ∧ v = z)
theorem IsZ.same {z : Value} {es : Array MapEntry} (h : Keyd es) {k : Int} {v v' : Value} (h1 : IsZ z es k v) (h2 : IsZ z es k v') : v = v' := by
  rcases h1 with ⟨x, hx, e1, rfl⟩ | ⟨h1, rfl⟩ <;> rcases h2 with ⟨y, hy, e2, rfl⟩ | ⟨h2, rfl⟩
  · rw [nodup_same h.once hx hy (e1.trans e2.symm)]
  · exact absurd e1 (h2 x hx)
  · exact absurd e2 (h1 y hy)
  · rfl
theorem isZ_empty (z : Value) (k : Int) : IsZ z #[] k z := .inr ⟨by simp, rfl⟩
/-- A look at a number. -/
theorem look_z {w : World} {z : Value} {b c : Nat} {es : Array MapEntry} {t e : TypeId} (hm : Tryd.prog.underlying t = some (.map 3 e)) (hz : (zeroValue e).run Tryd.prog w = .ok (z) w) (hb : w.heap[b]? = some (.map es c)) (h : Keyd es) (k : Int) :
    ∃ v, IsZ z es k v ∧ (Instr.lookup t (.map (some b)) (.int .i64 k) false).run Tryd.prog w = .ok v w := by
  have hk : Tryd.prog.underlying 3 = some (.int .i64) := Tryd.underlying3
  have hik : MapKept.IsKey (.int .i64) (.int .i64 k) := rfl
  have hc : (Instr.checkKey es.isEmpty 10000 3 (.int .i64 k)).run Tryd.prog w = .ok () w := MapKept.run_checkKey hk hik _ _
  rcases MapKept.findNow_spec hik es.toList 0 h.int with ⟨h1, h2⟩ | ⟨j, x, h1, h2, h3⟩
  · refine ⟨z, .inr ⟨h2, rfl⟩, ?_⟩
    simp [Instr.lookup, run_underlying hm, MapKept.run_getObj_map hb, hc, MapKept.run_findKey hk h1, Result.andThen, hz]
  · refine ⟨x.val, .inl ⟨x, List.mem_of_getElem? h2, h3, rfl⟩, ?_⟩
    simp [Instr.lookup, run_underlying hm, MapKept.run_getObj_map hb, hc, MapKept.run_findKey hk h1, Result.andThen]
/-- A store at a number. -/
theorem put_z {w : World} {z : Value} {b c : Nat} {es : Array MapEntry} {t e : TypeId} (hm : Tryd.prog.underlying t = some (.map 3 e)) (hb : w.heap[b]? = some (.map es c)) (h : Keyd es) (k : Int) (v : Value) :
    ∃ es' c', (Instr.mapUpdate t (.map (some b)) (.int .i64 k) v).run Tryd.prog w = .ok () (setMap w b es' c') ∧ Keyd es' ∧ IsZ z es' k v ∧ (∀ k' u, k' ≠ k → (IsZ z es k' u → IsZ z es' k' u)) ∧ ∀ x ∈ es'.toList, x.key = .int .i64 k ∨ x ∈ es.toList := by
  have hk : Tryd.prog.underlying 3 = some (.int .i64) := Tryd.underlying3
  have hik : MapKept.IsKey (.int .i64) (.int .i64 k) := rfl
  rcases MapKept.findNow_spec hik es.toList 0 h.int with ⟨h1, h2⟩ | ⟨j, x, h1, h2, h3⟩
  · refine ⟨es.push { key := .int .i64 k, val := v, born := c }, c + 1, put_new hm hk hik hb h1, ⟨?_, ?_⟩, ?_, ?_, fun y hy => by simp only [Array.toList_push, List.mem_append, List.mem_singleton] at hy; rcases hy with hy | rfl; exact .inr hy; exact .inl rfl⟩
    · intro y hy
      simp only [Array.toList_push, List.mem_append, List.mem_singleton] at hy
      rcases hy with hy | rfl
      · exact h.int y hy
      · exact hik
    · simp only [Array.toList_push, List.map_append, List.map_cons, List.map_nil]
      refine List.nodup_append.2 ⟨h.once, by simp, ?_⟩
      intro a ha b hb
      simp only [List.mem_singleton] at hb
      subst hb
      obtain ⟨y, hy, rfl⟩ := List.mem_map.1 ha
      exact h2 y hy
    · exact .inl ⟨{ key := .int .i64 k, val := v, born := c }, by simp, rfl, rfl⟩
    · intro k' u hne hu
      rcases hu with ⟨y, hy, e1, e2⟩ | ⟨hn, rfl⟩
      · exact .inl ⟨y, by rw [Array.toList_push]; exact List.mem_append_left _ hy, e1, e2⟩
      · refine .inr ⟨fun y hy => ?_, rfl⟩
        simp only [Array.toList_push, List.mem_append, List.mem_singleton] at hy
        rcases hy with hy | rfl
        · exact hn y hy
        · exact fun e => hne (by cases e; rfl)
  · have hj : es[j]? = some x := by simpa using h2
    have hx : x ∈ es.toList := List.mem_of_getElem? h2
    have hkey : ∀ e', es[j]? = some e' → ({ e' with key := .int .i64 k, val := v } : MapEntry).key = e'.key := fun e' he' => by rw [hj] at he'; cases he'; exact h3.symm
    have hmem : ∀ y, y ∈ (es.modify j fun e => { e with key := .int .i64 k, val := v }).toList ↔ (y = { x with key := .int .i64 k, val := v } ∨ (y ∈ es.toList ∧ y ≠ x)) := by
      intro y
      rw [List.mem_iff_getElem?]
      constructor
      · rintro ⟨i, hi⟩
        rw [Array.getElem?_toList, Array.getElem?_modify] at hi
        by_cases hij : j = i
        · subst hij
          rw [if_pos rfl, hj] at hi
          left; simpa using hi.symm
        · rw [if_neg hij] at hi
          have hyl : y ∈ es.toList := List.mem_of_getElem? (by rw [Array.getElem?_toList]; exact hi)
          refine .inr ⟨hyl, fun e => ?_⟩
          subst e
          have h8 := (List.getElem?_eq_some_iff.1 (show es.toList[i]? = some y by rw [Array.getElem?_toList]; exact hi))
          have h9 := (List.getElem?_eq_some_iff.1 h2)
          have := (List.getElem_inj (xs := es.toList.map (·.key)) (h₀ := by simpa using h9.1) (h₁ := by simpa using h8.1) h.once).1 (by simp only [List.getElem_map]; rw [h9.2, h8.2])
          exact hij this
      · rintro (rfl | ⟨hy, hne⟩)
        · refine ⟨j, ?_⟩
          rw [Array.getElem?_toList, Array.getElem?_modify, if_pos rfl, hj]; rfl
        · obtain ⟨i, hi⟩ := List.mem_iff_getElem?.1 hy
          refine ⟨i, ?_⟩
          rw [Array.getElem?_toList] at hi
          rw [Array.getElem?_toList, Array.getElem?_modify, if_neg (fun e => by subst e; rw [hj] at hi; cases hi; exact hne rfl)]
          exact hi
    refine ⟨es.modify j fun e => { e with key := .int .i64 k, val := v }, c, ?_, ⟨MapKept.isKey_modify h.int _ _ hkey, ?_⟩, ?_, ?_, fun y hy => by rcases (hmem y).1 hy with rfl | ⟨hy, _⟩; exact .inl rfl; exact .inr hy⟩
    · simp [Instr.mapUpdate, run_underlying hm, MapKept.run_getObj_map hb, MapKept.run_checkKey hk hik, MapKept.run_findKey hk h1, hj, h3, MapKept.run_keyThatStays hik, MapKept.run_setObj_map _ hb, Result.andThen, setMap]
    · rw [MapKept.modify_keys _ _ hkey]; exact h.once
    · exact .inl ⟨_, (hmem _).2 (.inl rfl), rfl, rfl⟩
    · intro k' u hne hu
      rcases hu with ⟨y, hy, e1, e2⟩ | ⟨hn, rfl⟩
      · refine .inl ⟨y, (hmem y).2 (.inr ⟨hy, fun e => ?_⟩), e1, e2⟩
        subst e; rw [h3] at e1; cases e1; exact hne rfl
      · refine .inr ⟨fun y hy => ?_, rfl⟩
        rcases (hmem y).1 hy with rfl | ⟨hy, _⟩
        · exact fun e => hne (by cases e; rfl)
        · exact hn y hy
/-- How a mark's word reads as data. -/
noncomputable def RW : Value → Option (DataW Unit × List MemPlace) := plainElem Tryd.prog 31
/-- Marks: a bit for each state. -/
structure MK (w : World) (b : Nat) (S : Nat → Bool) : Prop where
  map : ∃ es c, w.heap[b]? = some (.map es c) ∧ Keyd es ∧ ((∀ x ∈ es.toList, ∃ k : Nat, k < 100000 ∧ x.key = .int .i64 k) ∧ WideElems.Fit Tryd.prog 3 RW es c) ∧ ∀ k : Nat, ∃ m : Nat, IsZ (.int .u64 0) es k (.int .u64 m) ∧ m < 2 ^ 64 ∧ ∀ i, i < 64 → m.testBit i = S (64 * k + i)
theorem MK.new {w : World} {b : Nat} (h : w.heap[b]? = some (.map #[] 0)) : MK w b (fun _ => false) :=
  ⟨_, _, h, keyd_empty, ⟨by simp, by simp, MapKept.stamped_empty 0, by simp⟩, fun k => ⟨0, isZ_empty _ _, by decide, fun i _ => by simp⟩⟩
theorem MK.keep {w w' : World} {b : Nat} {S : Nat → Bool} (h : MK w b S) (hb : ∀ es c, w.heap[b]? = some (.map es c) → w'.heap[b]? = some (.map es c)) : MK w' b S := by
  obtain ⟨es, c, h1, h2⟩ := h.map
  exact ⟨es, c, hb es c h1, h2⟩
theorem in_u64 (m : Nat) (h : m < 2 ^ 64) : (Lit.int .u64 (m : Int)).wf = true := by
  have h1 : IntKind.u64.min = 0 := by decide
  have h2 : IntKind.u64.max = 18446744073709551615 := by decide
  simp only [Lit.wf, h1, h2, Bool.and_eq_true, decide_eq_true_eq]; omega
theorem in_i64 (m : Nat) (h : m < 1000000) : (Lit.int .i64 (m : Int)).wf = true := by
  have h1 : IntKind.i64.min = -9223372036854775808 := by decide
  have h2 : IntKind.i64.max = 9223372036854775807 := by decide
  simp only [Lit.wf, h1, h2, Bool.and_eq_true, decide_eq_true_eq]; omega
theorem nodup_nat_le : ∀ (n : Nat) (l : List Nat), l.Nodup → (∀ x ∈ l, x < n) → l.length ≤ n
  | 0, l, _, h => by
    cases l with
    | nil => simp
    | cons x xs => have := h x (by simp); omega
  | n + 1, l, hl, h => by
    have h1 := nodup_nat_le n (l.erase n) (hl.erase n) (fun x hx => by
      have h2 := h x (List.mem_of_mem_erase hx)
      have : x ≠ n := fun e => by subst e; exact (hl.not_mem_erase) hx
      omega)
    have h2 := List.length_erase (a := n) (l := l)
    split at h2 <;> omega
def natOf : Value → Nat
  | .int _ k => k.toNat
  | _ => 0
theorem keyd_len {es : Array MapEntry} (h : Keyd es) (h2 : ∀ x ∈ es.toList, ∃ k : Nat, k < 100000 ∧ x.key = .int .i64 k) : es.size ≤ 100000 := by
  have h3 : ((es.toList.map (·.key)).map natOf).Nodup := by
    rw [List.Nodup, List.pairwise_map]
    refine List.Pairwise.imp_of_mem ?_ h.once
    intro a b ha hb hne e
    obtain ⟨x, hx, rfl⟩ := List.mem_map.1 ha
    obtain ⟨y, hy, rfl⟩ := List.mem_map.1 hb
    obtain ⟨k, _, e1⟩ := h2 x hx
    obtain ⟨k', _, e2⟩ := h2 y hy
    rw [e1, e2] at hne e
    simp only [natOf, Int.toNat_natCast] at e
    exact hne (by rw [e])
  have := nodup_nat_le 100000 _ h3 (fun n hn => by
    obtain ⟨v, hv, rfl⟩ := List.mem_map.1 hn
    obtain ⟨x, hx, rfl⟩ := List.mem_map.1 hv
    obtain ⟨k, hk, e1⟩ := h2 x hx
    rw [e1]; simpa [natOf] using hk)
  simpa using this
theorem or_bit (m i : Nat) (hm : m < 2 ^ 64) (hi : i < 64) : bits .or .u64 (m : Int) (IntKind.u64.wrap (2 ^ i)) = ((m ||| 2 ^ i : Nat) : Int) ∧ m ||| 2 ^ i < 2 ^ 64 := by
  have hlt : 2 ^ i < 18446744073709551616 := by
    have : 2 ^ i < 2 ^ 64 := Nat.pow_lt_pow_right (by decide) hi
    exact this
  have e : IntKind.u64.wrap (2 ^ i) = ((2 ^ i : Nat) : Int) := by
    rw [IntKind.wrap_u64]
    have : ((2 ^ i : Nat) : Int) = (2 : Int) ^ i := by simp
    rw [← this]
    generalize 2 ^ i = x at hlt
    omega
  rw [e, u64_or_nat _ _ hm hlt]
  exact ⟨rfl, Nat.or_lt_two_pow hm hlt⟩
theorem or_same (m i : Nat) : (m ||| 2 ^ i = m) ↔ m.testBit i = true := by
  constructor
  · intro h
    rw [← h, Nat.testBit_or, Nat.testBit_two_pow]; simp
  · intro h
    apply Nat.eq_of_testBit_eq
    intro k
    rw [Nat.testBit_or, Nat.testBit_two_pow]
    by_cases hk : i = k
    · subst hk; simp [h]
    · simp [hk]
set_option maxHeartbeats 2000000 in
theorem add_any (b : Nat) (S : Nat → Bool) (s : Nat) (w : World) (hs : s < 1000000) (h : MK w b S) :
    Calls Tryd.prog 56 #[.map (some b), .int .i64 s] w fun e w' => e = .returned (.bool (!S s)) ∧ Hid (MK w' b (fun x => S x || x == s)) ∧ Hid (∃ es c, w' = setMap w b es c) := by
  obtain ⟨es, c, h1, h2, ⟨h3, hF⟩, h4⟩ := h.map
  obtain ⟨m, h5, h6, h7⟩ := h4 (s / 64)
  have hlk := look_z (t := 103) (e := 31) Tryd.underlying103 (show (zeroValue 31).run Tryd.prog w = .ok (.int .u64 0) w by kernel_rfl) h1 h2 ((s / 64 : Nat) : Int)
  obtain ⟨v, h8, hlk⟩ := hlk
  obtain rfl := IsZ.same h2 h5 h8
  have hdv : ((s / 64 : Nat) : Int) = (s : Int) / 64 := by omega
  rw [hdv] at hlk
  obtain ⟨ho, ho2⟩ := or_bit m (s % 64) h6 (by omega)
  obtain ⟨es', c', hrun, p1, p2, p3, p4⟩ := put_z (z := .int .u64 0) (t := 103) (e := 31) Tryd.underlying103 h1 h2 ((s / 64 : Nat) : Int) (.int .u64 ((m ||| 2 ^ (s % 64) : Nat) : Int))
  have hwf : (Lit.int .u64 ((m ||| 2 ^ (s % 64) : Nat) : Int)).wf = true := in_u64 _ ho2
  have hkw : (Lit.int .i64 ((s / 64 : Nat) : Int)).wf = true := in_i64 _ (by omega)
  obtain ⟨es2, c2, hrun2, hF2, _, _⟩ := Maps.fit_store (R' := RW) (Maps.int_keyed Tryd.underlying3) Tryd.underlying103 h1 hF (by have := keyd_len h2 h3; unfold maxLen; omega) (fun _ _ _ _ hz => hz) (Maps.keyOf_int_mk Tryd.underlying3 hkw) (plainElem_int Tryd.underlying31 hwf)
  have hsame : es2 = es' ∧ c2 = c' := by
    rw [hrun] at hrun2
    injection hrun2 with _ hh
    have h9 : (setMap w b es' c').heap[b]? = some (.map es' c') := setMap_new _ _ _ _ _ _ h1
    rw [hh] at h9
    have h10 : (setMap w b es2 c2).heap[b]? = some (.map es2 c2) := setMap_new _ _ _ _ _ _ h1
    have h11 : some (Obj.map es2 c2) = some (Obj.map es' c') := h10.symm.trans h9
    cases h11; exact ⟨rfl, rfl⟩
  obtain ⟨rfl, rfl⟩ := hsame
  rw [hdv] at hrun
  have hmk : MK (setMap w b es2 c2) b (fun x => S x || x == s) := by
    refine ⟨_, _, setMap_new _ _ _ _ _ _ h1, p1, ⟨fun x hx => ?_, hF2⟩, fun k => ?_⟩
    · rcases p4 x hx with h | h
      · exact ⟨_, by omega, h⟩
      · exact h3 x h
    · by_cases hk : k = s / 64
      · subst hk
        refine ⟨_, p2, ho2, fun i hi => ?_⟩
        rw [Nat.testBit_or, h7 i hi, Nat.testBit_two_pow]
        congr 1
        by_cases he : s % 64 = i
        · have : 64 * (s / 64) + i = s := by omega
          simp [he, this]
        · have : ¬ 64 * (s / 64) + i = s := by omega
          simp [he, this]
      · obtain ⟨m2, q1, q2, q3⟩ := h4 k
        refine ⟨m2, p3 _ _ (by omega) q1, q2, fun i hi => ?_⟩
        have : ¬ 64 * k + i = s := by omega
        simp [q3 i hi, this]
  have HMK := Lib.hid hmk
  have hS : S s = m.testBit (s % 64) := by rw [h7 _ (by omega)]; congr 1; omega
  have hsm := or_same m (s % 64)
  rw [← hS] at hsm
  clear hS
  clear h8 h5 h4 h3 h7 p1 p2 p3 p4 hmk hF hF2 hrun2 hwf hkw
  go_enter Tryd.func56, Tryd.ntmps56
  generalize hmm : m ||| 2 ^ (s % 64) = mm at *
  go_wp2
  have hb : ((mm : Int) != (m : Int)) = !S s := by
    by_cases hSs : S s = true
    · rw [hsm.2 hSs, hSs]; simp
    · have : mm ≠ m := fun e => hSs (hsm.1 e)
      have : (mm : Int) ≠ (m : Int) := by omega
      simp [hSs, this]
  rw [hb]
  exact bodyPost_ret (v := .bool (!S s)) (by simp [results, Tryd.results56, go_sem, *]) rfl ⟨rfl, HMK, Lib.hid ⟨_, _, rfl⟩⟩
end Go.Proofs.YtpfhhdiipedklaaDoor
set_option maxRecDepth 100000
namespace Go.Proofs.YtpfhhdiipedklaaDoor
open Go.RowKit

/-- A row of ints, readable. -/
def IntsAt (w : World) (v : Value) (L : List Int) : Prop := ∃ a c, v = .slice a L.length c ∧ ∀ i (h : i < L.length), ∃ b o, a = some ⟨b, o, none⟩ ∧ w.cell? ⟨b, o + i, none⟩ = some (.int .i64 L[i])
theorem IntsAt.below {w w' : World} {v : Value} {L : List Int} (h : IntsAt w v L) (hb : Below w.heap.size w w') : IntsAt w' v L := by
  obtain ⟨a, c, e, h1⟩ := h
  exact ⟨a, c, e, fun i hi => by obtain ⟨b, o, e1, e2⟩ := h1 i hi; exact ⟨b, o, e1, cell_below hb e2⟩⟩
theorem IntsAt.nil (w : World) : IntsAt w (.slice none 0 0) [] := ⟨none, 0, rfl, fun i hi => by simp at hi⟩
/-- One state visited; a row of them. -/
def visit1 (n : Int) (q : (Nat → Bool) × List Nat) (x : Int) : (Nat → Bool) × List Nat := if 0 ≤ x ∧ x < n ∧ q.1 x.toNat = false then (fun y => q.1 y || y == x.toNat, q.2 ++ [x.toNat]) else q
def visitF (n : Int) (q : (Nat → Bool) × List Nat) (L : List Int) : (Nat → Bool) × List Nat := L.foldl (visit1 n) q
theorem visitF_take {n : Int} {q : (Nat → Bool) × List Nat} {L : List Int} {i : Nat} (h : i < L.length) : visitF n q (L.take (i + 1)) = visit1 n (visitF n q (L.take i)) L[i] := by
  unfold visitF
  rw [List.take_succ_eq_append_getElem h, List.foldl_append]; rfl
/-- The state of close. -/
structure CI (w0 wr : World) (N bx bs bk bm : Nat) (n : Int) (b1 b2 : Nat) (q : (Nat → Bool) × List Nat) : Prop where
  below : Below N w0 wr
  big : N ≤ wr.heap.size
  far : N ≤ bx ∧ N ≤ bs ∧ N ≤ bk ∧ N ≤ bm ∧ bx ≠ bs ∧ bx ≠ bk ∧ bs ≠ bk
  box : wr.heap[bx]? = some (.cells #[.int .i64 n, .map (some b1), .map (some b2)] 71 (0, 0))
  seen : wr.heap[bs]? = some (.cells #[.map (some bm)] 103 (0, 0))
  mks : MK wr bm q.1
  stk : ∃ sv, wr.heap[bk]? = some (.cells #[sv] 22 (0, 0)) ∧ wr.ownsRow N 3 1 sv q.2.length (q.2.map fun x : Nat => Value.int .i64 (x : Int))
theorem CI.next {w0 w w' : World} {N bx bs bk bm : Nat} {n : Int} {b1 b2 : Nat} {q : (Nat → Bool) × List Nat} (h : CI w0 w N bx bs bk bm n b1 b2 q) (hb : Below w.heap.size w w') : CI w0 w' N bx bs bk bm n b1 b2 q := by
  obtain ⟨sv, h1, h2⟩ := h.stk
  exact ⟨h.below.trans (hb.mono h.big), Nat.le_trans h.big hb.size, h.far, (hb.block _ (lt_of_block h.box)).trans h.box, (hb.block _ (lt_of_block h.seen)).trans h.seen, h.mks.keep fun _ _ h1 => (hb.block _ (lt_of_block h1)).trans h1, sv, (hb.block _ (lt_of_block h1)).trans h1, row_keep h2 fun g cs _ h1 => (hb.block _ (lt_of_block h1)).trans h1⟩
/-- Behind a mark. -/
theorem CI.mark {w0 w : World} {N bx bs bk bm : Nat} {n : Int} {b1 b2 : Nat} {q : (Nat → Bool) × List Nat} {S : Nat → Bool} {es : Array MapEntry} {c : Nat} (h : CI w0 w N bx bs bk bm n b1 b2 q) (hm : MK (setMap w bm es c) bm S) : CI w0 (setMap w bm es c) N bx bs bk bm n b1 b2 (S, q.2) := by
  obtain ⟨sv, h1, h2⟩ := h.stk
  obtain ⟨es0, c0, h3, _⟩ := h.mks.map
  have hs : ∀ (j : Nat) (cs : Array Value) (t : TypeId), w.heap[j]? = some (.cells cs t (0, 0)) → (setMap w bm es c).heap[j]? = some (.cells cs t (0, 0)) := fun j cs t h4 => by
    simp only [setMap, Array.getElem?_setIfInBounds]
    rw [if_neg (fun e => by subst e; rw [h3] at h4; cases h4)]; exact h4
  exact ⟨h.below.trans (setMap_below _ _ (Below.refl _ _) h.far.2.2.2.1), by simp only [setMap, Array.size_setIfInBounds]; exact h.big, h.far, hs _ _ _ h.box, hs _ _ _ h.seen, hm, sv, hs _ _ _ h1, row_keep h2 fun g cs _ h4 => hs _ _ _ h4⟩
theorem visitF_len (n : Int) (L : List Int) : ∀ q : (Nat → Bool) × List Nat, (visitF n q L).2.length ≤ q.2.length + L.length := by
  induction L with
  | nil => intro q; simp [visitF]
  | cons x xs ih =>
    intro q
    have h1 := ih (visit1 n q x)
    have h2 : (visit1 n q x).2.length ≤ q.2.length + 1 := by unfold visit1; split <;> simp
    simp only [visitF, List.foldl_cons, List.length_cons] at h1 ⊢
    omega
/-- Behind an append to the stack. -/
theorem CI.push {w0 w5 w7 w8 : World} {N bx bs bk bm g cap : Nat} {n : Int} {b1 b2 s : Nat} {q : (Nat → Bool) × List Nat} {sv : Value} (h : CI w0 w5 N bx bs bk bm n b1 b2 q) (hk : w5.heap[bk]? = some (.cells #[sv] 22 (0, 0)))
    (hrv : w5.ownsRow N 3 1 sv q.2.length (q.2.map fun x : Nat => Value.int .i64 (x : Int))) (h7 : Below w5.heap.size w5 w7) (hg : w7.grownBy w8 sv.ownBlock)
    (hrow : w8.ownsRow N 3 1 (.slice (some ⟨g, 0, none⟩) (q.2.length + 1) cap) (q.2.length + 1) ((q.2.map fun x : Nat => Value.int .i64 (x : Int)) ++ [.int .i64 s])) :
    w8.cell? ⟨bk, 0, none⟩ = some sv ∧ w8.frozen? ⟨bk, 0, none⟩ = false ∧ CI w0 (w8.setCell ⟨bk, 0, none⟩ (.slice (some ⟨g, 0, none⟩) (q.2.length + 1) cap)) N bx bs bk bm n b1 b2 (q.1, q.2 ++ [s]) := by
  have hno : ∀ (j : Nat) (o : Obj), w5.heap[j]? = some o → (∀ cs : Array Value, o ≠ .cells cs 3 (0, 0)) → sv.ownBlock ≠ some j := fun j o h1 h2 h3 => by
    obtain ⟨cs, h4⟩ := row_block hrv h3
    rw [h1] at h4; cases h4; exact h2 cs rfl
  have h8 : ∀ (j : Nat) (o : Obj), w5.heap[j]? = some o → (∀ cs : Array Value, o ≠ .cells cs 3 (0, 0)) → w8.heap[j]? = some o := fun j o h1 h2 => by
    have hj := lt_of_block h1
    rw [hg.block j (by have := h7.size; omega) (fun e => hno j o h1 h2 e.symm), h7.block j hj]; exact h1
  have hb8 := h8 bk _ hk (fun cs e => by cases e)
  have hbl : Below N w0 w8 := (h.below.trans (h7.mono h.big)).grown hg (by have := h.big; have := h7.size; omega) (fun k hk => (hrv.lt k hk).1)
  have hset : ∀ (j : Nat) (o : Obj), w8.heap[j]? = some o → j ≠ bk → (w8.setCell ⟨bk, 0, none⟩ (.slice (some ⟨g, 0, none⟩) (q.2.length + 1) cap)).heap[j]? = some o := fun j o h1 h2 => (Below.heap_setCell _ _ _ _ h2).trans h1
  have hfar := h.far
  refine ⟨(cell_of_row _ _ 0 _ _ _ hb8).trans rfl, free_cells hb8, ⟨hbl.setCell (p := ⟨bk, 0, none⟩) hfar.2.2.1 _, by have := h.big; have := h7.size; have := hg.size; simp only [World.size_setCell]; omega, hfar, hset _ _ (h8 _ _ h.box (fun cs e => by cases e)) (by omega), hset _ _ (h8 _ _ h.seen (fun cs e => by cases e)) (by omega), h.mks.keep fun es c h1 => hset _ _ (h8 _ _ h1 (fun cs e => by cases e)) (fun e => by subst e; rw [hk] at h1; cases h1), .slice (some ⟨g, 0, none⟩) (q.2.length + 1) cap, ?_, ?_⟩⟩
  · rw [setCell_block hb8]; rfl
  · simp only [List.length_append, List.length_singleton, List.map_append, List.map_singleton]
    exact row_keep hrow fun g2 cs _ h2 => hset g2 _ h2 (fun e => by subst e; rw [hb8] at h2; cases h2)
set_option linter.unusedSimpArgs false in
set_option maxHeartbeats 4000000 in
theorem visit_any (w0 : World) (N bx bs bk bm b1 b2 : Nat) (n : Int) (q : (Nat → Bool) × List Nat) (v : Value) (L : List Int) (w : World) (hn : n ≤ 100000) (hv : IntsAt w0 v L) (hN : N = w0.heap.size) (hL : L.length < 100000000) (hql : q.2.length + L.length < 1000000000) (h : CI w0 w N bx bs bk bm n b1 b2 q) :
    Calls Tryd.prog 55 #[v, ptr bx, ptr bs, ptr bk] w fun e w' => e = .returned (.tuple #[]) ∧ Hid (CI w0 w' N bx bs bk bm n b1 b2 (visitF n q L)) := by
  obtain ⟨a, c, rfl, hv⟩ := hv
  have HV := Lib.hid hv
  have HN := Lib.hid hN
  obtain ⟨i0, hi0, hz0, hz1, hz2⟩ := info_parts infoI
  have HI := Lib.hid (And.intro hi0 (And.intro hz0 (And.intro hz1 hz2)))
  clear hi0 hz0 hz1 hz2
  have HC := Lib.hid (show CI w0 w N bx bs bk bm n b1 b2 (visitF n q (L.take 0)) from h)
  clear hv h
  go_enter Tryd.func55, Tryd.ntmps55
  go_wp2
  go_loopw [9] (fun x wr => ∃ k : Nat, x = .int .i64 k ∧ k ≤ L.length ∧ Hid (CI w0 wr N bx bs bk bm n b1 b2 (visitF n q (L.take k)))) (fun x _ => L.length - (intOf x).toNat)
  case atStart => exact ⟨0, rfl, Nat.zero_le _, HC⟩
  case round =>
    clear HC
    obtain ⟨k, rfl, hkl, HK⟩ := hrel
    by_cases hlt : k < L.length
    · have hdd : decide ((k : Int) < L.length) = true := by simpa using hlt
      have HVT := Lib.hid (visitF_take (n := n) (q := q) hlt)
      obtain ⟨b, ob, rfl, hc⟩ := HV.out k hlt
      have hc2 := cell_below (HN.out ▸ HK.out.below) hc
      clear hc
      have hle := visitF_len n (L.take k) q
      rw [List.length_take] at hle
      generalize L[k] = x at *
      generalize visitF n q (L.take k) = q1 at *
      have x0 : wr.cell? ⟨bx, 0, none⟩ = some (.int .i64 n) := (cell_of_row wr bx 0 _ _ _ HK.out.box).trans rfl
      have x1 : wr.cell? ⟨bs, 0, none⟩ = some (.map (some bm)) := (cell_of_row wr bs 0 _ _ _ HK.out.seen).trans rfl
      by_cases h0 : 0 ≤ x
      · have hd0 : decide (0 ≤ x) = true := by simpa using h0
        by_cases h1 : x < n
        · have hd1 : decide (x < n) = true := by simpa using h1
          obtain ⟨s, rfl⟩ := Int.eq_ofNat_of_zero_le h0
          have HAD := Lib.hid (add_any bm q1.1 s wr (by omega) HK.out.mks)
          cases hq : q1.1 s with
          | true =>
            have HQ := Lib.hid hq
            clear hq
            go_wp2_with (go_at_call 56; refine HAD.out.mono ?_; rw [HQ.out]; rintro e w3 ⟨rfl, HM3, HE3⟩; obtain ⟨es3, c3, rfl⟩ := HE3.out; have HC3 := Lib.hid (HK.out.mark HM3.out); clear HM3 HE3)
            refine ⟨⟨k + 1, rfl, hlt, Lib.hid ?_⟩, by simp only [intOf]; omega⟩
            have e1 : visit1 n q1 (s : Int) = q1 := by unfold visit1; rw [if_neg]; intro hh; rw [Int.toNat_natCast, HQ.out] at hh; exact absurd hh.2.2 (by decide)
            have e2 : (fun x => q1.1 x || x == s, q1.2) = q1 := by
              obtain ⟨S, st⟩ := q1
              congr 1
              funext x
              by_cases hx : x = s
              · subst hx; simp [show S x = true from HQ.out]
              · simp [hx]
            rw [HVT.out, e1]
            have := HC3.out
            rw [e2] at this; exact this
          | false =>
            have HQ := Lib.hid hq
            clear hq
            go_wp2_with (first
              | (go_at_call 56; refine HAD.out.mono ?_; rw [HQ.out]; rintro e w3 ⟨rfl, HM3, HE3⟩; obtain ⟨es3, c3, rfl⟩ := HE3.out; have HC3 := Lib.hid (HK.out.mark HM3.out); clear HM3 HE3; generalize setMap wr bm es3 c3 = w3 at *; obtain ⟨sv, hsk, hrv⟩ := HC3.out.stk; have c0 : w3.cell? ⟨bk, 0, none⟩ = some sv := (cell_of_row w3 bk 0 _ _ _ hsk).trans rfl; have HSK := Lib.hid hsk; have HRV := Lib.hid hrv; have HRA := Lib.hid (row_keep (w' := w3.alloc (.cells #[.int .i64 s] 3)) hrv fun g cs _ h1 => (heap_alloc_old w3 _ (lt_of_block h1)).trans h1); have hb3 := HC3.out.big; clear hsk hrv)
              | (at_builtin; refine wpList_append_lies _ rfl _ _ 22 rfl N 3 i0 (.int .i64 0) 1 8 Tryd.underlying22 HI.out.1 HI.out.2.1 HI.out.2.2.1 HI.out.2.2.2 rfl (by decide) sv q1.2.length (q1.2.map fun x : Nat => Value.int .i64 (x : Int)) rfl HRA.out ⟨w3.heap.size, 0, none⟩ 1 1 [.int .i64 s] rfl rfl (news_in (cs := #[.int .i64 s]) (heap_alloc_new w3 _)) (by simp [Value.oneCell']) (by omega) (by unfold maxLen; omega) (by omega) (by simp; omega) (w3.heap.size + 1) (by simp) ?_; intro g cap2 w8 h2 h3 h4 h5; obtain ⟨c8, f8, hci⟩ := HC3.out.push HSK.out HRV.out (new_one w3 _) h3 h2; have HCI := Lib.hid hci; clear h2 h3 h4 h5 hci))
            refine ⟨⟨k + 1, rfl, hlt, Lib.hid ?_⟩, by simp only [intOf]; omega⟩
            have e1 : visit1 n q1 (s : Int) = (fun x => q1.1 x || x == s, q1.2 ++ [s]) := by unfold visit1; rw [if_pos ⟨by omega, h1, by rw [Int.toNat_natCast, HQ.out]⟩, Int.toNat_natCast]
            rw [HVT.out, e1]; exact HCI.out
        · have hd1 : decide (x < n) = false := by simpa using h1
          go_wp2
          refine ⟨⟨k + 1, rfl, hlt, Lib.hid ?_⟩, by simp only [intOf]; omega⟩
          have e1 : visit1 n q1 x = q1 := by unfold visit1; rw [if_neg]; exact fun hh => h1 hh.2.1
          rw [HVT.out, e1]; exact HK.out
      · have hd0 : decide (0 ≤ x) = false := by simpa using h0
        go_wp2
        refine ⟨⟨k + 1, rfl, hlt, Lib.hid ?_⟩, by simp only [intOf]; omega⟩
        have e1 : visit1 n q1 x = q1 := by unfold visit1; rw [if_neg]; exact fun hh => h0 hh.1
        rw [HVT.out, e1]; exact HK.out
    · have hdd : decide ((k : Int) < L.length) = false := by simpa using hlt
      obtain rfl : k = L.length := by omega
      rw [List.take_length] at HK
      go_wp2
      go_end0
      exact ⟨rfl, HK⟩
end Go.Proofs.YtpfhhdiipedklaaDoor
set_option maxRecDepth 100000
namespace Go.Proofs.YtpfhhdiipedklaaDoor
open Go.RowKit

theorem visit1_set (n : Int) (q : (Nat → Bool) × List Nat) (x : Int) (s : Nat) : (visit1 n q x).1 s = true ↔ q.1 s = true ∨ (0 ≤ x ∧ x < n ∧ x.toNat = s) := by
  unfold visit1
  split
  · next h =>
    simp only [Bool.or_eq_true, beq_iff_eq]
    constructor
    · rintro (h1 | h1)
      · exact .inl h1
      · exact .inr ⟨h.1, h.2.1, h1.symm⟩
    · rintro (h1 | h1)
      · exact .inl h1
      · exact .inr h1.2.2.symm
  · next h =>
    constructor
    · exact .inl
    · rintro (h1 | h1)
      · exact h1
      · cases hq : q.1 s with
        | true => rfl
        | false => exact absurd ⟨h1.1, h1.2.1, by rw [h1.2.2]; exact hq⟩ h
theorem visit1_stk (n : Int) (q : (Nat → Bool) × List Nat) (x : Int) (s : Nat) : s ∈ (visit1 n q x).2 ↔ s ∈ q.2 ∨ ((visit1 n q x).1 s = true ∧ q.1 s = false) := by
  unfold visit1
  split
  · next h =>
    simp only [List.mem_append, List.mem_singleton, Bool.or_eq_true, beq_iff_eq]
    constructor
    · rintro (h1 | rfl)
      · exact .inl h1
      · exact .inr ⟨.inr rfl, h.2.2⟩
    · rintro (h1 | ⟨h1 | h1, h2⟩)
      · exact .inl h1
      · rw [h1] at h2; cases h2
      · exact .inr h1
  · constructor
    · exact .inl
    · rintro (h1 | ⟨h1, h2⟩)
      · exact h1
      · rw [h1] at h2; cases h2
theorem visitF_set (n : Int) (L : List Int) (s : Nat) : ∀ q : (Nat → Bool) × List Nat, (visitF n q L).1 s = true ↔ q.1 s = true ∨ ∃ x ∈ L, 0 ≤ x ∧ x < n ∧ x.toNat = s := by
  induction L with
  | nil => intro q; simp [visitF]
  | cons x xs ih =>
    intro q
    have h1 := ih (visit1 n q x)
    simp only [visitF, List.foldl_cons] at h1 ⊢
    rw [h1, visit1_set]
    simp only [List.mem_cons, exists_eq_or_imp, or_assoc]
theorem visitF_stk (n : Int) (L : List Int) (s : Nat) : ∀ q : (Nat → Bool) × List Nat, s ∈ (visitF n q L).2 ↔ s ∈ q.2 ∨ ((visitF n q L).1 s = true ∧ q.1 s = false) := by
  induction L with
  | nil => intro q; cases h : q.1 s <;> simp [visitF, h]
  | cons x xs ih =>
    intro q
    have h1 := ih (visit1 n q x)
    have h2 := visitF_set n xs s (visit1 n q x)
    have h3 := visit1_set n q x s
    simp only [visitF, List.foldl_cons] at h1 h2 ⊢
    rw [h1, visit1_stk]
    constructor
    · rintro ((h4 | ⟨h4, h5⟩) | ⟨h4, h5⟩)
      · exact .inl h4
      · exact .inr ⟨h2.2 (.inl h4), h5⟩
      · refine .inr ⟨h4, ?_⟩
        cases hq : q.1 s with
        | false => rfl
        | true => rw [h3.2 (.inl hq)] at h5; cases h5
    · rintro (h4 | ⟨h4, h5⟩)
      · exact .inl (.inl h4)
      · cases hq : (visit1 n q x).1 s with
        | true => exact .inl (.inr ⟨rfl, h5⟩)
        | false => exact .inr ⟨h4, rfl⟩
/-- How many states below n have no mark. -/
def unm : Nat → (Nat → Bool) → Nat
  | 0, _ => 0
  | n + 1, S => unm n S + (if S n then 0 else 1)
theorem unm_congr {S T : Nat → Bool} : ∀ n, (∀ y, y < n → S y = T y) → unm n S = unm n T
  | 0, _ => rfl
  | n + 1, h => by simp only [unm]; rw [unm_congr n (fun y hy => h y (by omega)), h n (by omega)]
theorem unm_mark {S : Nat → Bool} {s : Nat} : ∀ n, s < n → S s = false → unm n (fun y => S y || y == s) + 1 = unm n S
  | 0, h, _ => by omega
  | n + 1, h, hs => by
    simp only [unm]
    by_cases e : s = n
    · subst e
      rw [unm_congr (S := fun y => S y || y == s) (T := S) s (fun y hy => by
        have : ¬ y = s := by omega
        simp [this])]
      simp [hs]
    · have := unm_mark n (by omega) hs
      have e2 : ¬ n = s := fun h => e h.symm
      have e3 : (n == s) = false := by simpa using e2
      simp only [e3, Bool.or_false]
      omega
theorem visit_meas (n : Nat) (L : List Int) : ∀ q : (Nat → Bool) × List Nat, 2 * unm n (visitF n q L).1 + (visitF n q L).2.length ≤ 2 * unm n q.1 + q.2.length := by
  induction L with
  | nil => intro q; simp [visitF]
  | cons x xs ih =>
    intro q
    have h1 := ih (visit1 n q x)
    simp only [visitF, List.foldl_cons] at h1 ⊢
    have h2 : 2 * unm n (visit1 n q x).1 + (visit1 n q x).2.length ≤ 2 * unm n q.1 + q.2.length := by
      unfold visit1
      split
      · next h =>
        have := unm_mark (S := q.1) (s := x.toNat) n (by omega) h.2.2
        simp only [List.length_append, List.length_singleton]
        omega
      · exact Nat.le_refl _
    omega
/-- What leads nowhere but there: reached from L by steps by nothing. -/
inductive Reach (n : Nat) (E : List (Nat × Nat)) (L : List Int) : Nat → Prop
  | base {x : Int} : x ∈ L → 0 ≤ x → x < n → Reach n E L x.toNat
  | step {s t : Nat} : Reach n E L s → (s, t) ∈ E → t < n → Reach n E L t
theorem Reach.lt {n : Nat} {E : List (Nat × Nat)} {L : List Int} {s : Nat} (h : Reach n E L s) : s < n := by
  cases h with
  | base _ h1 h2 => omega
  | step _ _ h => exact h
/-- Where a state's steps by nothing lead. -/
def tgt (E : List (Nat × Nat)) (s : Nat) : List Int := (E.filter fun x => decide ((x.1 : Int) = s)).map fun x => (x.2 : Int)
theorem mem_tgt {E : List (Nat × Nat)} {s : Nat} {x : Int} : x ∈ tgt E s ↔ ∃ t : Nat, x = t ∧ (s, t) ∈ E := by
  simp only [tgt, List.mem_map, List.mem_filter, decide_eq_true_eq]
  constructor
  · rintro ⟨⟨a, b⟩, ⟨h1, h2⟩, rfl⟩
    have : a = s := by simp only at h2; omega
    exact ⟨b, rfl, this ▸ h1⟩
  · rintro ⟨t, rfl, h⟩
    exact ⟨(s, t), ⟨h, rfl⟩, rfl⟩
/-- Between the rounds of close's loop. -/
structure CInv (n : Nat) (E : List (Nat × Nat)) (L : List Int) (q : (Nat → Bool) × List Nat) : Prop where
  sound : ∀ s, q.1 s = true → Reach n E L s
  base : ∀ x ∈ L, 0 ≤ x → x < (n : Int) → q.1 x.toNat = true
  closed : ∀ s, q.1 s = true → s ∈ q.2 ∨ ∀ t, (s, t) ∈ E → t < n → q.1 t = true
  stk : ∀ s ∈ q.2, q.1 s = true
theorem CInv.start (n : Nat) (E : List (Nat × Nat)) (L : List Int) : CInv n E L (visitF n ((fun _ => false), []) L) := by
  refine ⟨fun s h => ?_, fun x hx h0 h1 => ?_, fun s h => .inl ?_, fun s h => ?_⟩
  · rcases (visitF_set _ _ _ _).1 h with h1 | ⟨x, h1, h2, h3, rfl⟩
    · cases h1
    · exact .base h1 h2 h3
  · exact (visitF_set _ _ _ _).2 (.inr ⟨x, hx, h0, h1, rfl⟩)
  · exact (visitF_stk _ _ _ _).2 (.inr ⟨h, rfl⟩)
  · rcases (visitF_stk _ _ _ _).1 h with h1 | h1
    · cases h1
    · exact h1.1
theorem CInv.round {n : Nat} {E : List (Nat × Nat)} {L : List Int} {S : Nat → Bool} {st : List Nat} {s : Nat} (h : CInv n E L (S, st ++ [s])) : CInv n E L (visitF n (S, st) (tgt E s)) := by
  have hs : S s = true := h.stk s (by simp)
  refine ⟨fun x hx => ?_, fun x hx h0 h1 => ?_, fun x hx => ?_, fun x hx => ?_⟩
  · rcases (visitF_set _ _ _ _).1 hx with h1 | ⟨y, h1, h2, h3, rfl⟩
    · exact h.sound x h1
    · obtain ⟨t, rfl, ht⟩ := mem_tgt.1 h1
      rw [Int.toNat_natCast]
      exact .step (h.sound s hs) ht (by omega)
  · exact (visitF_set _ _ _ _).2 (.inl (h.base x hx h0 h1))
  · cases hq : S x with
    | false => exact .inl ((visitF_stk _ _ _ _).2 (.inr ⟨hx, hq⟩))
    | true =>
      by_cases e : x = s
      · subst e
        refine .inr fun t ht hn => (visitF_set _ _ _ _).2 (.inr ⟨t, mem_tgt.2 ⟨t, rfl, ht⟩, by omega, by omega, by simp⟩)
      · rcases h.closed x hq with h1 | h1
        · refine .inl ((visitF_stk _ _ _ _).2 (.inl ?_))
          simpa [e] using h1
        · exact .inr fun t ht hn => (visitF_set _ _ _ _).2 (.inl (h1 t ht hn))
  · rcases (visitF_stk _ _ _ _).1 hx with h1 | h1
    · exact (visitF_set _ _ _ _).2 (.inl (h.stk x (by simp [show x ∈ st from h1])))
    · exact h1.1
theorem CInv.done {n : Nat} {E : List (Nat × Nat)} {L : List Int} {q : (Nat → Bool) × List Nat} (h : CInv n E L q) (hq : q.2 = []) (s : Nat) : q.1 s = true ↔ Reach n E L s := by
  refine ⟨h.sound s, fun hr => ?_⟩
  induction hr with
  | base h1 h2 h3 => exact h.base _ h1 h2 h3
  | step _ h1 h2 ih =>
    rcases h.closed _ ih with h3 | h3
    · rw [hq] at h3; cases h3
    · exact h3 _ h1 h2
theorem IntsAt.row {w : World} {base n : Nat} {v : Value} {L : List Int} (h : w.ownsRow base 3 1 v n (L.map fun x => .int .i64 x)) : IntsAt w v L := by
  have hl : n = L.length := by have := h.1; simp at this; omega
  subst hl
  by_cases h0 : 0 < L.length
  · obtain ⟨b, c, rfl, hc⟩ := row_cell h h0
    refine ⟨_, _, rfl, fun i hi => ⟨b, 0, rfl, ?_⟩⟩
    rw [Nat.zero_add]
    exact hc i _ (by rw [List.getElem?_map, List.getElem?_eq_getElem hi]; rfl)
  · have hn : L = [] := List.length_eq_zero_iff.1 (by omega)
    subst hn
    rcases h.2 with ⟨rfl, _⟩ | ⟨g, cap, cur, rfl, _⟩
    · exact IntsAt.nil w
    · exact ⟨_, _, rfl, fun i hi => by simp at hi⟩
theorem epsF_row (E : List (Nat × Nat)) (s : Nat) : (epsF E s).flatten = (tgt E s).map (fun x => .int .i64 x) ∧ (epsF E s).length = (tgt E s).length := by
  unfold epsF tgt
  constructor
  · induction (E.filter fun x => decide ((x.1 : Int) = s)) with
    | nil => rfl
    | cons x xs ih => simp [ih]
  · simp
end Go.Proofs.YtpfhhdiipedklaaDoor
set_option maxRecDepth 100000
namespace Go.Proofs.YtpfhhdiipedklaaDoor
open Go.RowKit

/-- The states that have marks, rising, in a row of their own. -/
def RiseP (S : Nat → Bool) (w : World) (e : Ending) (w' : World) : Prop :=
  ∃ (v : Value) (l : List Nat), e = .returned v ∧ Hid (w'.ownsRow w.heap.size 3 1 v l.length (l.map fun x : Nat => Value.int .i64 (x : Int))) ∧ Hid (l.Pairwise (· < ·) ∧ ∀ s, s ∈ l ↔ S s = true) ∧ Hid (Below w.heap.size w w')
def Rises (cnt : Nat) : Prop := ∀ (b : Nat) (S : Nat → Bool) (w : World), Tab w → MK w b S → (∀ s, S s = true → s < cnt) → Calls Tryd.prog 57 #[.map (some b)] w (RiseP S w)
/-- Behind the last of the stack taken off. -/
theorem CI.pop {w0 w : World} {N bx bs bk bm : Nat} {n : Int} {b1 b2 s : Nat} {S : Nat → Bool} {st : List Nat} (h : CI w0 w N bx bs bk bm n b1 b2 (S, st ++ [s])) : ∃ g cap, w.heap[bk]? = some (.cells #[.slice (some ⟨g, 0, none⟩) (st.length + 1) cap] 22 (0, 0)) ∧ w.cell? ⟨g, st.length, none⟩ = some (.int .i64 s) ∧ st.length + 1 ≤ cap ∧
    CI w0 (w.setCell ⟨bk, 0, none⟩ (.slice (some ⟨g, 0, none⟩) st.length cap)) N bx bs bk bm n b1 b2 (S, st) := by
  obtain ⟨sv, h1, h2⟩ := h.stk
  obtain ⟨hl, h3⟩ := h2
  have hlen : (st ++ [s]).length = st.length + 1 := by simp
  simp only [hlen] at h3 hl
  rcases h3 with ⟨_, h3⟩ | ⟨g, cap, cur, rfl, hg, hgb, hcap, hmax, hcs, hct⟩
  · omega
  · have hset : ∀ (j : Nat) (o : Obj), w.heap[j]? = some o → j ≠ bk → (w.setCell ⟨bk, 0, none⟩ (.slice (some ⟨g, 0, none⟩) st.length cap)).heap[j]? = some o := fun j o h4 h5 => (Below.heap_setCell _ _ _ _ h5).trans h4
    have hgk : g ≠ bk := fun e => by subst e; rw [h1] at hgb; cases hgb
    have hfar := h.far
    refine ⟨g, cap, h1, ?_, hcap, ⟨h.below.setCell (p := ⟨bk, 0, none⟩) hfar.2.2.1 _, by simp only [World.size_setCell]; exact h.big, hfar, hset _ _ h.box hfar.2.2.2.2.2.1, hset _ _ h.seen hfar.2.2.2.2.2.2, h.mks.keep fun es c h4 => hset _ _ h4 (fun e => by subst e; rw [h1] at h4; cases h4), .slice (some ⟨g, 0, none⟩) st.length cap, ?_, ?_⟩⟩
    · have h5 : (cur.toList.take ((st.length + 1) * 1))[st.length]? = some (.int .i64 s) := by
        rw [hct]; simp
      rw [List.getElem?_take] at h5
      split at h5
      · exact (cell_of_row w g st.length _ _ _ hgb).trans (by simpa using h5)
      · cases h5
    · rw [setCell_block h1]; rfl
    · refine ⟨by simp, .inr ⟨g, cap, cur, rfl, hg, hset _ _ hgb hgk, Nat.le_of_succ_le hcap, hmax, hcs, ?_⟩⟩
      have h6 := congrArg (List.take st.length) hct
      rw [List.take_take] at h6
      rw [Nat.mul_one, Nat.min_eq_left (by omega)] at h6
      rw [Nat.mul_one, h6]
      simp
theorem unm_le : ∀ (n : Nat) (S : Nat → Bool), unm n S ≤ n
  | 0, _ => Nat.le_refl _
  | n + 1, S => by have := unm_le n S; simp only [unm]; split <;> omega
set_option linter.unusedSimpArgs false in
set_option maxHeartbeats 4000000 in
theorem close_any (cnt : Nat) (b1 b2 : Nat) (E : List (Nat × Nat)) (A : List (Nat × Nat × BitVec 256)) (v : Value) (L : List Int) (w : World) (hcnt : cnt ≤ 100000) (hEl : E.length < 100000) (hL : L.length < 100000000) (hv : IntsAt w v L) (hW : Walker w b1 b2 E A) (hT : Tab w) (HR : Hid (Rises cnt)) :
    Calls Tryd.prog 29 #[.agg #[.int .i64 cnt, .map (some b1), .map (some b2)], v] w fun e w' => ∃ (v' : Value) (l : List Nat), e = .returned v' ∧ Hid (w'.ownsRow w.heap.size 3 1 v' l.length (l.map fun x : Nat => Value.int .i64 (x : Int))) ∧ Hid (l.Pairwise (· < ·) ∧ ∀ s, s ∈ l ↔ Reach cnt E L s) ∧ Hid (Below w.heap.size w w') := by
  obtain ⟨N, hN⟩ : ∃ N, w.heap.size = N := ⟨_, rfl⟩
  have hmm := run_makeMap (P := Tryd.prog) 103
  have hci : CI w ((((w.alloc (.cells #[.int .i64 cnt, .map (some b1), .map (some b2)] 71)).alloc (.cells #[.slice none 0 0] 22)).alloc (.map #[] 0)).alloc (.cells #[.map (some (N + 1 + 1))] 103)) N N (N + 1 + 1 + 1) (N + 1) (N + 1 + 1) cnt b1 b2 (fun _ => false, []) := by
    have s1 : (w.alloc (.cells #[.int .i64 cnt, .map (some b1), .map (some b2)] 71)).heap.size = N + 1 := by simp [hN]
    have x1 := heap_alloc_new w (.cells #[.int .i64 cnt, .map (some b1), .map (some b2)] 71)
    have d1 := new_one w (.cells #[.int .i64 cnt, .map (some b1), .map (some b2)] 71)
    rw [hN] at x1 d1
    generalize w.alloc (.cells #[.int .i64 cnt, .map (some b1), .map (some b2)] 71) = u1 at *
    have s2 : (u1.alloc (.cells #[.slice none 0 0] 22)).heap.size = N + 2 := by simp [s1]
    have x2 := heap_alloc_new u1 (.cells #[.slice none 0 0] 22)
    have d2 := new_one u1 (.cells #[.slice none 0 0] 22)
    rw [s1] at x2 d2
    generalize u1.alloc (.cells #[.slice none 0 0] 22) = u2 at *
    have s3 : (u2.alloc (.map #[] 0)).heap.size = N + 3 := by simp [s2]
    have x3 := heap_alloc_new u2 (.map #[] 0)
    have d3 := new_one u2 (.map #[] 0)
    rw [s2] at x3 d3
    generalize u2.alloc (.map #[] 0) = u3 at *
    have x4 := heap_alloc_new u3 (.cells #[.map (some (N + 1 + 1))] 103)
    have d4 := new_one u3 (.cells #[.map (some (N + 1 + 1))] 103)
    have s4 : (u3.alloc (.cells #[.map (some (N + 1 + 1))] 103)).heap.size = N + 4 := by simp [s3]
    rw [s3] at x4 d4
    generalize u3.alloc (.cells #[.map (some (N + 1 + 1))] 103) = u4 at *
    have dd : Below (N + 2) u2 u4 := d3.trans (d4.mono (by omega))
    have de : Below (N + 1) u1 u4 := d2.trans (dd.mono (by omega))
    exact ⟨d1.trans (de.mono (by omega)), by omega, by omega, (de.block N (by omega)).trans x1, x4, MK.new ((d4.block (N + 2) (by omega)).trans x3), .slice none 0 0, (dd.block (N + 1) (by omega)).trans x2, by simpa using World.ownsRow_nil _ _ _ _⟩
  obtain ⟨q0, hq0⟩ : ∃ q0, visitF cnt (fun _ => false, []) L = q0 := ⟨_, rfl⟩
  have hst := CInv.start cnt E L
  rw [hq0] at hst
  have hme := visit_meas cnt L (fun _ => false, [])
  rw [hq0] at hme
  have hum := unm_le cnt (fun _ => false)
  simp only [List.length_nil] at hme
  have hcv := visit_any w N N (N + 1 + 1 + 1) (N + 1) (N + 1 + 1) b1 b2 cnt (fun _ => false, []) v L _ (by omega) hv hN.symm hL (by simp only [List.length_nil]; omega) hci
  rw [hq0] at hcv
  obtain ⟨B, es, c, hes, hkd, hro, _⟩ := (show ∃ B es c, w.heap[b1]? = some (.map es c) ∧ Keyd es ∧ (∀ k, ∃ v, IsAt es k v ∧ w.ownsRow B 3 1 v (epsF E k).length (epsF E k).flatten) ∧ True from by obtain ⟨B, hG⟩ := hW.e; obtain ⟨es, c, h1, h2, h3, _⟩ := hG.map; exact ⟨B, es, c, h1, h2, h3, trivial⟩)
  have hlt1 := lt_of_block hes
  rw [hN] at hlt1
  have HRO := Lib.hid (show ∀ s : Nat, ∃ v, IntsAt w v (tgt E s) ∧ ∀ W : World, W.heap[b1]? = some (.map es c) → (Instr.lookup 68 (.map (some b1)) (.int .i64 s) false).run Tryd.prog W = .ok v W from fun s => by
    obtain ⟨v, h1, h2⟩ := hro s
    obtain ⟨h3, h4⟩ := epsF_row E s
    rw [h3, h4] at h2
    exact ⟨v, IntsAt.row h2, fun W hW => look_fix Tryd.underlying68 zero_ints hkd h1 hW⟩)
  have HES := Lib.hid hes
  have HTB := Lib.hid hT
  have HCV := Lib.hid hcv
  have HST := Lib.hid hst
  have HW := Lib.hid hN
  clear hcv hst hro hes hkd hci hv hW hq0 hT
  rw [hN]
  go_enter Tryd.func29, Tryd.ntmps29
  go_upto_region 4 with fail
  clear hmm
  go_wp2_with (go_at_call 55; refine HCV.out.mono ?_; rintro e w5 ⟨rfl, hc5⟩)
  generalize hbs : N + 1 + 1 + 1 = bs at *
  generalize hbm : N + 1 + 1 = bm at *
  generalize hbk : N + 1 = bk at *
  clear hbs hbm hbk HCV
  go_loopg [] (2 * unm cnt q0.1 + q0.2.length) (fun gk wr => ∃ q, 2 * unm cnt q.1 + q.2.length = gk ∧ gk ≤ 2 * cnt ∧ Hid (CI w wr N N bs bk bm cnt b1 b2 q) ∧ Hid (CInv cnt E L q))
  case atStart => exact ⟨q0, rfl, by omega, hc5, HST⟩
  case round =>
    obtain ⟨q, hqk, hgk, HC, HI⟩ := hrel
    clear hc5
    obtain ⟨S, st⟩ := q
    have c1 : wr.cell? ⟨bs, 0, none⟩ = some (.map (some bm)) := (cell_of_row wr bs 0 _ _ _ HC.out.seen).trans rfl
    rcases List.eq_nil_or_concat st with rfl | ⟨st, s, rfl⟩
    · obtain ⟨sv, hsv, hsr⟩ := HC.out.stk
      obtain ⟨a, cp, rfl⟩ : ∃ a cp, sv = .slice a 0 cp := by
        rcases hsr.2 with ⟨rfl, _⟩ | ⟨g, cap, cur, rfl, _⟩
        · exact ⟨none, 0, rfl⟩
        · exact ⟨_, _, rfl⟩
      have c0 : wr.cell? ⟨bk, 0, none⟩ = some (.slice a 0 cp) := (cell_of_row wr bk 0 _ _ _ hsv).trans rfl
      have HDN := Lib.hid (fun s => HI.out.done rfl s)
      have HRS := Lib.hid (HR.out bm S wr (HTB.out.below (HW.out ▸ HC.out.below)) HC.out.mks (fun s hs => (HI.out.sound s hs).lt))
      clear hsv hsr
      go_wp2_with (go_at_call 57; refine HRS.out.mono ?_; rintro e w9 ⟨v', l, rfl, hr, hl, hb⟩)
      go_ret
      refine ⟨v', l, rfl, Lib.hid ?_, Lib.hid ⟨hl.out.1, fun s => (hl.out.2 s).trans (HDN.out s)⟩, Lib.hid (HC.out.below.trans (hb.out.mono HC.out.big))⟩
      obtain ⟨h1, h2⟩ := hr.out
      refine ⟨h1, h2.imp_right ?_⟩
      rintro ⟨g, cap, cur, e1, e2, e3⟩
      exact ⟨g, cap, cur, e1, Nat.le_trans HC.out.big e2, e3⟩
    · rw [List.concat_eq_append] at HC HI
      have hqk2 : 2 * unm cnt S + (st.length + 1) = gk := by simpa using hqk
      obtain ⟨g, cap, h1, h2, h3, h4⟩ := HC.out.pop
      have c0 : wr.cell? ⟨bk, 0, none⟩ = some (.slice (some ⟨g, 0, none⟩) (st.length + 1) cap) := (cell_of_row wr bk 0 _ _ _ h1).trans rfl
      have f0 : wr.frozen? ⟨bk, 0, none⟩ = false := free_cells h1
      have x1 : wr.cell? ⟨N, 1, none⟩ = some (.map (some b1)) := (cell_of_row wr N 1 _ _ _ HC.out.box).trans rfl
      obtain ⟨v, hv, hlk⟩ := HRO.out s
      have hlk1 := hlk (wr.setCell ⟨bk, 0, none⟩ (.slice (some ⟨g, 0, none⟩) st.length cap)) ((h4.below.block b1 hlt1).trans HES.out)
      have htl : (tgt E s).length ≤ E.length := by unfold tgt; rw [List.length_map]; exact List.length_filter_le _ _
      have HV1 := Lib.hid (visit_any w N N bs bk bm b1 b2 cnt (S, st) v (tgt E s) _ (by omega) hv HW.out.symm (by omega) (by simp only; omega) h4)
      have hms := visit_meas cnt (tgt E s) (S, st)
      simp only at hms
      have HRD := Lib.hid HI.out.round
      have h3' : (st.length : Int) ≤ (cap : Int) := by omega
      clear h4 h1 hlk hv
      go_wp2_with (go_at_call 55; refine HV1.out.mono ?_; rintro e w6 ⟨rfl, hc6⟩)
      go_roundg (2 * unm cnt (visitF cnt (S, st) (tgt E s)).1 + (visitF cnt (S, st) (tgt E s)).2.length)
      case measure => omega
      case rel => exact ⟨_, rfl, by omega, hc6, HRD⟩
end Go.Proofs.YtpfhhdiipedklaaDoor
set_option maxRecDepth 100000
namespace Go.Proofs.YtpfhhdiipedklaaDoor
open Go.RowKit

/-- The least bit of a word, and the word without it. -/
theorem low_bit (x : Nat) (hx : x < 2 ^ 64) (h0 : x ≠ 0) : Lib.ctz 64 x < 64 ∧ x.testBit (Lib.ctz 64 x) = true ∧ (∀ j, j < Lib.ctz 64 x → x.testBit j = false) ∧ (∀ j, (x &&& (x - 1)).testBit j = (x.testBit j && (j != Lib.ctz 64 x))) ∧ (x &&& (x - 1)) < x := by
  obtain ⟨m, hm, hc⟩ := Lib.ctzFrom_spec 64 x (Nat.pos_of_ne_zero h0) hx
  have e : Lib.ctz 64 x = Lib.ctzFrom 64 x := by simp [Lib.ctz, h0]
  rw [e]
  generalize Lib.ctzFrom 64 x = c at *
  have hp : 0 < 2 ^ c := Nat.two_pow_pos c
  have e1 : x = 2 ^ (c + 1) * m + 2 ^ c := by rw [hm, Nat.pow_succ]; simp only [Nat.add_mul, Nat.mul_comm, Nat.mul_assoc]; omega
  have e2 : x - 1 = 2 ^ (c + 1) * m + (2 ^ c - 1) := by omega
  have hlt : 2 ^ c < 2 ^ (c + 1) := by rw [Nat.pow_succ]; omega
  have t1 : ∀ j, x.testBit j = if j < c + 1 then decide (c = j) else m.testBit (j - (c + 1)) := fun j => by
    rw [e1, Nat.testBit_two_pow_mul_add _ hlt, Nat.testBit_two_pow]
  have t2 : ∀ j, (x - 1).testBit j = if j < c + 1 then decide (j < c) else m.testBit (j - (c + 1)) := fun j => by
    rw [e2, Nat.testBit_two_pow_mul_add _ (by omega), Nat.testBit_two_pow_sub_one]
  have hc64 : c < 64 := by
    rcases Nat.lt_or_ge c 64 with h | h
    · exact h
    · have : 2 ^ 64 ≤ 2 ^ c := Nat.pow_le_pow_right (by decide) h
      omega
  refine ⟨hc64, by rw [t1]; simp, fun j hj => ?_, fun j => ?_, ?_⟩
  · rw [t1, if_pos (by omega)]
    have : ¬ c = j := by omega
    simp [this]
  · rw [Nat.testBit_and, t1, t2]
    by_cases hj : j < c + 1
    · simp only [if_pos hj]
      by_cases hjc : c = j
      · subst hjc; simp
      · have : ¬ j = c := fun h => hjc h.symm
        simp [hjc]
    · simp only [if_neg hj]
      have : ¬ j = c := by omega
      simp [this]
  · have := Nat.and_le_right (n := x) (m := x - 1)
    omega
/-- The marked ones of a word's states, below the j-th of them. -/
def bitsTo (S : Nat → Bool) (k j : Nat) : List Nat := ((List.range j).filter fun i => S (64 * k + i)).map fun i => 64 * k + i
theorem bitsTo_none {S : Nat → Bool} {k j : Nat} : ∀ c, j ≤ c → (∀ i, j ≤ i → i < c → S (64 * k + i) = false) → bitsTo S k c = bitsTo S k j
  | 0, h, _ => by have : j = 0 := by omega
                  rw [this]
  | c + 1, h, hn => by
    by_cases e : j = c + 1
    · rw [e]
    · rw [← bitsTo_none c (by omega) (fun i h1 h2 => hn i h1 (by omega))]
      unfold bitsTo
      rw [List.range_succ, List.filter_append, List.map_append]
      simp [hn c (by omega) (by omega)]
theorem bitsTo_next {S : Nat → Bool} {k j c : Nat} (h : j ≤ c) (hn : ∀ i, j ≤ i → i < c → S (64 * k + i) = false) (hc : S (64 * k + c) = true) : bitsTo S k (c + 1) = bitsTo S k j ++ [64 * k + c] := by
  rw [← bitsTo_none c h hn]
  unfold bitsTo
  rw [List.range_succ, List.filter_append, List.map_append]
  simp [hc]
theorem mem_bits {S : Nat → Bool} {k s : Nat} : s ∈ bitsTo S k 64 ↔ s / 64 = k ∧ S s = true := by
  simp only [bitsTo, List.mem_map, List.mem_filter, List.mem_range]
  constructor
  · rintro ⟨i, ⟨h1, h2⟩, rfl⟩
    exact ⟨by omega, h2⟩
  · rintro ⟨h1, h2⟩
    refine ⟨s % 64, ⟨by omega, ?_⟩, by omega⟩
    rw [show 64 * k + s % 64 = s by omega]; exact h2
theorem bits_sorted (S : Nat → Bool) (k : Nat) : (bitsTo S k 64).Pairwise (· < ·) := by
  unfold bitsTo
  rw [List.pairwise_map]
  refine (List.pairwise_lt_range.filter _).imp ?_
  intro a b h; omega
/-- All marked ones, of rising words. -/
def bitsAll (S : Nat → Bool) (ks : List Nat) : List Nat := ks.flatMap fun k => bitsTo S k 64
theorem mem_bitsAll {S : Nat → Bool} {ks : List Nat} {s : Nat} : s ∈ bitsAll S ks ↔ s / 64 ∈ ks ∧ S s = true := by
  simp only [bitsAll, List.mem_flatMap, mem_bits]
  constructor
  · rintro ⟨k, h1, rfl, h2⟩; exact ⟨h1, h2⟩
  · rintro ⟨h1, h2⟩; exact ⟨_, h1, rfl, h2⟩
theorem bitsAll_sorted (S : Nat → Bool) : ∀ ks : List Nat, ks.Pairwise (· < ·) → (bitsAll S ks).Pairwise (· < ·)
  | [], _ => .nil
  | k :: ks, h => by
    rw [List.pairwise_cons] at h
    have : bitsAll S (k :: ks) = bitsTo S k 64 ++ bitsAll S ks := by simp [bitsAll]
    rw [this, List.pairwise_append]
    refine ⟨bits_sorted S k, bitsAll_sorted S ks h.2, fun a ha b hb => ?_⟩
    have h1 := (mem_bits.1 ha).1
    have h2 := h.1 _ (mem_bitsAll.1 hb).1
    omega
theorem bitsAll_take {S : Nat → Bool} {ks : List Nat} {i : Nat} (h : i < ks.length) : bitsAll S (ks.take (i + 1)) = bitsAll S (ks.take i) ++ bitsTo S ks[i] 64 := by
  unfold bitsAll
  rw [List.take_succ_eq_append_getElem h, List.flatMap_append]
  simp
end Go.Proofs.YtpfhhdiipedklaaDoor
