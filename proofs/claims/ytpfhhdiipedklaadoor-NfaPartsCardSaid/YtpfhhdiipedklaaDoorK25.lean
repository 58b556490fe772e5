/- Texts that a proof rests on: Maps from strings to rows; a trip's keep. | A trip whose key is known. -/
import Derived.Test.YtpfhhdiipedklaaDoorK24
set_option maxRecDepth 100000
namespace Go.Proofs.YtpfhhdiipedklaaDoor
open Go.RowKit

theorem zeroIs (w : World) : (zeroValue 22).run Tryd.prog w = .ok (.slice none 0 0) w := zero_ints w
/-- A look at a string, with ok. -/
theorem look_s {w : World} {b c : Nat} {es : Array MapEntry} (hb : w.heap[b]? = some (.map es c)) (h : KeyS es) (k : ByteArray) :
    (∃ x ∈ es.toList, x.key = .string k ∧ (Instr.lookup 85 (.map (some b)) (.string k) true).run Tryd.prog w = .ok (.tuple #[x.val, .bool true]) w) ∨
    ((∀ x ∈ es.toList, x.key ≠ .string k) ∧ (Instr.lookup 85 (.map (some b)) (.string k) true).run Tryd.prog w = .ok (.tuple #[.slice none 0 0, .bool false]) w) := by
  have hm := Tryd.underlying85
  have hk : Tryd.prog.underlying 9 = some .string := Tryd.underlying9
  have hik : MapKept.IsKey .string (.string k) := trivial
  have hc : (Instr.checkKey es.isEmpty 10000 9 (.string k)).run Tryd.prog w = .ok () w := MapKept.run_checkKey hk hik _ _
  have hz := zeroIs w
  rcases MapKept.findNow_spec hik es.toList 0 h.str with ⟨h1, h2⟩ | ⟨j, x, h1, h2, h3⟩
  · refine .inr ⟨h2, ?_⟩
    simp [Instr.lookup, run_underlying hm, MapKept.run_getObj_map hb, hc, MapKept.run_findKey hk h1, Result.andThen, hz]
  · refine .inl ⟨x, List.mem_of_getElem? h2, h3, ?_⟩
    simp [Instr.lookup, run_underlying hm, MapKept.run_getObj_map hb, hc, MapKept.run_findKey hk h1, Result.andThen]
/-- A store at a string. -/
theorem put_s {w : World} {b c : Nat} {es : Array MapEntry} (hb : w.heap[b]? = some (.map es c)) (h : KeyS es) (k : ByteArray) (v : Value) :
    ∃ es' c', (Instr.mapUpdate 85 (.map (some b)) (.string k) v).run Tryd.prog w = .ok () (setMap w b es' c') ∧ KeyS es' ∧ ∀ x ∈ es'.toList, (x.key = .string k ∧ x.val = v) ∨ x ∈ es.toList := by
  have hm := Tryd.underlying85
  have hk : Tryd.prog.underlying 9 = some .string := Tryd.underlying9
  have hik : MapKept.IsKey .string (.string k) := trivial
  rcases MapKept.findNow_spec hik es.toList 0 h.str with ⟨h1, h2⟩ | ⟨j, x, h1, h2, h3⟩
  · refine ⟨es.push { key := .string k, val := v, born := c }, c + 1, put_new hm hk hik hb h1, ⟨?_, ?_⟩, ?_⟩
    · intro y hy
      simp only [Array.toList_push, List.mem_append, List.mem_singleton] at hy
      rcases hy with hy | rfl
      · exact h.str y hy
      · exact hik
    · simp only [Array.toList_push, List.map_append, List.map_cons, List.map_nil]
      refine List.nodup_append.2 ⟨h.once, by simp, ?_⟩
      intro a ha b hb
      simp only [List.mem_singleton] at hb
      subst hb
      obtain ⟨y, hy, rfl⟩ := List.mem_map.1 ha
      exact h2 y hy
    · intro y hy
      simp only [Array.toList_push, List.mem_append, List.mem_singleton] at hy
      rcases hy with hy | rfl
      · exact .inr hy
      · exact .inl ⟨rfl, rfl⟩
  · have hj : es[j]? = some x := by simpa using h2
    have hx : x ∈ es.toList := List.mem_of_getElem? h2
    have hkey : ∀ e', es[j]? = some e' → ({ e' with key := .string k, val := v } : MapEntry).key = e'.key := fun e' he' => by rw [hj] at he'; cases he'; exact h3.symm
    refine ⟨es.modify j fun e => { e with key := .string k, val := v }, c, ?_, ⟨MapKept.isKey_modify h.str _ _ hkey, ?_⟩, ?_⟩
    · simp [Instr.mapUpdate, run_underlying hm, MapKept.run_getObj_map hb, MapKept.run_checkKey hk hik, MapKept.run_findKey hk h1, hj, h3, MapKept.run_keyThatStays hik, MapKept.run_setObj_map _ hb, Result.andThen, setMap]
    · rw [MapKept.modify_keys _ _ hkey]; exact h.once
    · intro y hy
      obtain ⟨i, hi⟩ := List.mem_iff_getElem?.1 hy
      rw [Array.getElem?_toList, Array.getElem?_modify] at hi
      by_cases hij : j = i
      · subst hij
        rw [if_pos rfl, hj] at hi
        left
        have : y = { x with key := .string k, val := v } := by simpa using hi.symm
        subst this; exact ⟨rfl, rfl⟩
      · rw [if_neg hij] at hi
        exact .inr (List.mem_of_getElem? (by rw [Array.getElem?_toList]; exact hi))
set_option linter.unusedSimpArgs false in
set_option maxHeartbeats 2000000 in
theorem keep_any (w0 : World) (t bm b1 b2 cnt kept : Nat) (E : List (Nat × Nat)) (A : List (Nat × Nat × BitVec 256)) (b : Nat) (L l : List Nat) (v : Value) (w : World) (h : TI w0 w t bm b1 b2 cnt kept E A) (hb : b < 256) (hv : w.ownsRow w0.heap.size 3 1 v l.length (l.map fun x : Nat => Value.int .i64 (x : Int)))
    (hl : l.Pairwise (· < ·) ∧ ∀ s, s ∈ l ↔ Reach cnt E (stepT A b (L.map fun x : Nat => (x : Int))) s) (hk : kept + ((keyOfStep b L).size + l.length) ≤ 1048576) :
    Calls Tryd.prog 60 #[ptr t, .string (keyOfStep b L), v] w fun e w' => e = .returned (.tuple #[]) ∧ Hid (TI w0 w' t bm b1 b2 cnt (kept + ((keyOfStep b L).size + l.length)) E A ∧ ∀ (g : Nat) (cs : Array Value), w.heap[g]? = some (.cells cs 3 (0, 0)) → w'.heap[g]? = some (.cells cs 3 (0, 0))) := by
  obtain ⟨a, cp, rfl⟩ : ∃ a cp, v = .slice a l.length cp := by
    rcases hv.2 with ⟨rfl, h2⟩ | ⟨g, cap, cur, rfl, _⟩
    · exact ⟨none, 0, by rw [h2]⟩
    · exact ⟨_, _, rfl⟩
  obtain ⟨kv, xs, ho, hx⟩ := h.obj
  obtain ⟨es, c, hes, hks, hen⟩ := h.known.map
  obtain ⟨q, hq⟩ : ∃ q, (keyOfStep b L).size = q := ⟨_, rfl⟩
  have c3 : w.cell? ⟨t, 3, none⟩ = some (.map (some bm)) := (cell_of_row w t 3 _ _ _ ho).trans rfl
  have c4 : w.cell? ⟨t, 4, none⟩ = some (.int .i64 kept) := (cell_of_row w t 4 _ _ _ ho).trans rfl
  have f4 : w.frozen? ⟨t, 4, none⟩ = false := free_cells ho
  have hfar := h.far
  obtain ⟨w1, hw1⟩ : ∃ w1, w.setCell ⟨t, 4, none⟩ (.int .i64 ((kept : Int) + ((q : Int) + (l.length : Int)))) = w1 := ⟨_, rfl⟩
  have hset : ∀ (j : Nat) (o : Obj), w.heap[j]? = some o → j ≠ t → w1.heap[j]? = some o := fun j o h1 h2 => by rw [← hw1]; exact (Below.heap_setCell _ _ _ _ h2).trans h1
  have ho1 : w1.heap[t]? = some (.cells #[.int .i64 cnt, .map (some b1), .map (some b2), .map (some bm), .int .i64 ((kept : Int) + ((q : Int) + (l.length : Int))), kv] 87 (0, 0)) := by rw [← hw1, setCell_block ho]; rfl
  have hbl1 : Below w0.heap.size w0 w1 := by rw [← hw1]; exact h.below.setCell (p := ⟨t, 4, none⟩) hfar.1 _
  have hes1 := hset bm _ hes (fun e => hfar.2.2 e.symm)
  obtain ⟨es', c', hrun, hks', hen'⟩ := put_s hes1 hks (keyOfStep b L) (.slice a l.length cp)
  have d3 : w1.cell? ⟨t, 3, none⟩ = some (.map (some bm)) := (cell_of_row w1 t 3 _ _ _ ho1).trans rfl
  have d4 : w1.cell? ⟨t, 4, none⟩ = some (.int .i64 ((kept : Int) + ((q : Int) + (l.length : Int)))) := (cell_of_row w1 t 4 _ _ _ ho1).trans rfl
  have he : ((kept : Int) + ((q : Int) + (l.length : Int))) = ((kept + (q + l.length) : Nat) : Int) := by push_cast; rfl
  have hmap : ∀ (j : Nat) (cs : Array Value) (ty : TypeId), w1.heap[j]? = some (.cells cs ty (0, 0)) → (setMap w1 bm es' c').heap[j]? = some (.cells cs ty (0, 0)) := fun j cs ty h4 => by
    simp only [setMap, Array.getElem?_setIfInBounds]
    rw [if_neg (fun e => by subst e; rw [hes1] at h4; cases h4)]; exact h4
  have hint : ∀ (g : Nat) (cs : Array Value) (ty : TypeId), ty ≠ 87 → w.heap[g]? = some (.cells cs ty (0, 0)) → (setMap w1 bm es' c').heap[g]? = some (.cells cs ty (0, 0)) := fun g cs ty hty h4 =>
    hmap g cs ty (hset g _ h4 (fun e => by subst e; rw [ho] at h4; cases h4; exact hty rfl))
  have HFIN : Hid (TI w0 (setMap w1 bm es' c') t bm b1 b2 cnt (kept + (q + l.length)) E A ∧ ∀ (g : Nat) (cs : Array Value), w.heap[g]? = some (.cells cs 3 (0, 0)) → (setMap w1 bm es' c').heap[g]? = some (.cells cs 3 (0, 0))) := Lib.hid ⟨⟨hbl1.trans (setMap_below _ _ (Below.refl _ _) hfar.2.1), hfar, h.wk, ⟨kv, xs, he ▸ hmap _ _ _ ho1, row_keep hx fun g cs _ h3 => hint g cs _ (by decide) h3⟩, ⟨es', c', setMap_new _ _ _ _ _ _ hes1, hks', fun x hx' => by
    rcases hen' x hx' with ⟨h1, h2⟩ | h1
    · exact ⟨b, L, l, hb, h1, by rw [h2]; exact row_keep hv fun g cs _ h3 => hint g cs _ (by decide) h3, hl⟩
    · obtain ⟨b', L', l', g1, g2, g3, g4⟩ := hen x h1
      exact ⟨b', L', l', g1, g2, row_keep g3 fun g cs _ h3 => hint g cs _ (by decide) h3, g4⟩⟩⟩, fun g cs h3 => hint g cs _ (by decide) h3⟩
  rw [hq] at hk ⊢
  have hdd : decide ((1048576 : Int) < ((kept : Int) + ((q : Int) + (l.length : Int)))) = false := decide_eq_false (by omega)
  have HRN := Lib.hid hrun
  clear he h ho hx hes hks hen hv hl hset ho1 hbl1 hes1 hks' hen' hmap hint hrun
  go_enter Tryd.func60, Tryd.ntmps60
  have hrun := HRN.out
  go_wp2
  go_end0
  exact ⟨rfl, HFIN⟩
end Go.Proofs.YtpfhhdiipedklaaDoor
set_option maxRecDepth 100000
namespace Go.Proofs.YtpfhhdiipedklaaDoor
open Go.RowKit

/-- A trip at t whose key, the slice kv, holds the bytes xs. -/
structure TX (w0 wr : World) (t bm b1 b2 cnt kept : Nat) (E : List (Nat × Nat)) (A : List (Nat × Nat × BitVec 256)) (kv : Value) (xs : List Nat) : Prop where
  below : Below w0.heap.size w0 wr
  far : w0.heap.size ≤ t ∧ w0.heap.size ≤ bm ∧ t ≠ bm
  wk : Walker w0 b1 b2 E A
  obj : wr.heap[t]? = some (.cells #[.int .i64 cnt, .map (some b1), .map (some b2), .map (some bm), .int .i64 kept, kv] 87 (0, 0))
  row : wr.ownsRow w0.heap.size 5 1 kv xs.length (u8s xs)
  known : KN wr w0.heap.size bm cnt E A
theorem TI.key {w0 w : World} {t bm b1 b2 cnt kept : Nat} {E : List (Nat × Nat)} {A : List (Nat × Nat × BitVec 256)} (h : TI w0 w t bm b1 b2 cnt kept E A) : ∃ kv xs, TX w0 w t bm b1 b2 cnt kept E A kv xs := by
  obtain ⟨kv, xs, h1, h2⟩ := h.obj
  exact ⟨kv, xs, h.below, h.far, h.wk, h1, h2, h.known⟩
theorem TX.trip {w0 w : World} {t bm b1 b2 cnt kept : Nat} {E : List (Nat × Nat)} {A : List (Nat × Nat × BitVec 256)} {kv : Value} {xs : List Nat} (h : TX w0 w t bm b1 b2 cnt kept E A kv xs) : TI w0 w t bm b1 b2 cnt kept E A :=
  ⟨h.below, h.far, h.wk, ⟨kv, xs, h.obj, h.row⟩, h.known⟩
/-- Its key cut to nothing, as a row. -/
theorem key_none {w : World} {B : Nat} {kv : Value} {xs : List Nat} (h : w.ownsRow B 5 1 kv xs.length (u8s xs)) : ∃ a cp, kv = .slice a xs.length cp ∧ w.ownsRow B 5 1 (.slice a 0 cp) 0 [] ∧ (a = none → cp = 0) := by
  obtain ⟨_, h2⟩ := h
  rcases h2 with ⟨rfl, h3⟩ | ⟨g, cap, cur, rfl, hg, hgb, h4, h5, h6, _⟩
  · exact ⟨none, 0, by rw [h3], World.ownsRow_nil _ _ _ _, fun _ => rfl⟩
  · exact ⟨_, _, rfl, ⟨rfl, .inr ⟨g, cap, cur, rfl, hg, hgb, Nat.zero_le _, h5, h6, by simp⟩⟩, fun e => by cases e⟩
/-- Behind bytes appended to its key (or to the key cut), and the store of it. -/
theorem TX.set {w0 w5 w7 w8 : World} {t bm b1 b2 cnt kept : Nat} {E : List (Nat × Nat)} {A : List (Nat × Nat × BitVec 256)} {kv kv' cut : Value} {xs ys : List Nat} (h : TX w0 w5 t bm b1 b2 cnt kept E A kv xs)
    (h7 : Below w5.heap.size w5 w7) (hcut : cut.ownBlock = kv.ownBlock) (hg : w7.grownBy w8 cut.ownBlock) (hrow : w8.ownsRow w0.heap.size 5 1 kv' ys.length (u8s ys)) :
    w8.cell? ⟨t, 5, none⟩ = some kv ∧ w8.frozen? ⟨t, 5, none⟩ = false ∧ TX w0 (w8.setCell ⟨t, 5, none⟩ kv') t bm b1 b2 cnt kept E A kv' ys ∧
      ∀ (g : Nat) (cs : Array Value), w5.heap[g]? = some (.cells cs 3 (0, 0)) → (w8.setCell ⟨t, 5, none⟩ kv').heap[g]? = some (.cells cs 3 (0, 0)) := by
  have hno : ∀ (j : Nat) (o : Obj), w5.heap[j]? = some o → (∀ cs : Array Value, o ≠ .cells cs 5 (0, 0)) → cut.ownBlock ≠ some j := fun j o h1 h2 h3 => by
    rw [hcut] at h3
    obtain ⟨cs, h4⟩ := row_block h.row h3
    rw [h1] at h4; cases h4; exact h2 cs rfl
  have h8 : ∀ (j : Nat) (o : Obj), w5.heap[j]? = some o → (∀ cs : Array Value, o ≠ .cells cs 5 (0, 0)) → w8.heap[j]? = some o := fun j o h1 h2 => by
    have hj := lt_of_block h1
    rw [hg.block j (by have := h7.size; omega) (fun e => hno j o h1 h2 e.symm), h7.block j hj]; exact h1
  have hb8 := h8 t _ h.obj (fun cs e => by cases e)
  have hsz := h.below.size
  have hbl : Below w0.heap.size w0 w8 := (h.below.trans (h7.mono hsz)).grown hg (by have := h7.size; omega) (fun k hk => by
    rw [hcut] at hk
    exact (h.row.lt k hk).1)
  have hset : ∀ (j : Nat) (o : Obj), w8.heap[j]? = some o → j ≠ t → (w8.setCell ⟨t, 5, none⟩ kv').heap[j]? = some o := fun j o h1 h2 => (Below.heap_setCell _ _ _ _ h2).trans h1
  have hfar := h.far
  have hty : ∀ (j : Nat) (cs : Array Value) (ty : TypeId), ty ≠ 87 → w8.heap[j]? = some (.cells cs ty (0, 0)) → j ≠ t := fun j cs ty h1 h2 e => by
    subst e; rw [hb8] at h2; cases h2; exact h1 rfl
  have hint : ∀ (g : Nat) (cs : Array Value), w5.heap[g]? = some (.cells cs 3 (0, 0)) → (w8.setCell ⟨t, 5, none⟩ kv').heap[g]? = some (.cells cs 3 (0, 0)) := fun g cs h1 => by
    have h2 := h8 g _ h1 (fun cs e => by cases e)
    exact hset g _ h2 (hty g cs _ (by decide) h2)
  refine ⟨(cell_of_row _ _ 5 _ _ _ hb8).trans rfl, free_cells hb8, ⟨hbl.setCell (p := ⟨t, 5, none⟩) hfar.1 _, hfar, h.wk, ?_, row_keep hrow fun g cs _ h1 => hset g _ h1 (hty g cs _ (by decide) h1), h.known.keep (fun es c h1 => hset _ _ (h8 _ _ h1 (fun cs e => by cases e)) (fun e => hfar.2.2 e.symm)) hint⟩, hint⟩
  rw [setCell_block hb8]; rfl
end Go.Proofs.YtpfhhdiipedklaaDoor
