/- Texts that a proof rests on: The text of a set: no two sets have the same; the contract of text. | The contract of once. | Contracts of upToEnd and other. -/
import Derived.Test.YtooaamepflkgnaaDoorN24
import Derived.Test.YtooaamepflkgnaaDoorN21
import Derived.Test.YtooaamepflkgnaaDoorN25
import Derived.StillTailTactics
import Derived.Deep.RegionHeld3
set_option maxRecDepth 20000
namespace Go.Proofs.YtooaamepflkgnaaDoor
open Go.RowKit

theorem dec_eq {n : Nat} (h : n < 100) : Lib.decDigits n = dec n := by
  unfold dec
  by_cases h1 : n < 10
  · rw [if_pos h1, Lib.decDigits_one h1]
  · rw [if_neg h1, Lib.decDigits_two h1 h]
def decVal (l : List UInt8) : Nat := l.foldl (fun a b => 10 * a + (b.toNat - 48)) 0
theorem dec_val : ∀ n, n < 100 → decVal (dec n) = n := by decide
theorem dec_bytes : ∀ n, n < 100 → ∀ b ∈ dec n, b ≠ 45 ∧ b ≠ 32 := by decide
theorem dec_len : ∀ n, n < 100 → (dec n).length ≤ 2 := by decide
theorem dec_inj {m n : Nat} (hm : m < 100) (hn : n < 100) (h : dec m = dec n) : m = n := by rw [← dec_val m hm, ← dec_val n hn, h]
/-- What stands ahead of a sign that it lacks. -/
theorem split_at {x : UInt8} : ∀ {a b c d : List UInt8}, (∀ y ∈ a, y ≠ x) → (∀ y ∈ c, y ≠ x) → a ++ x :: b = c ++ x :: d → a = c ∧ b = d
  | [], b, [], d, _, _, h => by simpa using h
  | [], b, z :: c, d, _, hc, h => by
    simp at h
    exact absurd h.1.symm (hc z (by simp))
  | y :: a, b, [], d, ha, _, h => by
    simp at h
    exact absurd h.1 (ha y (by simp))
  | y :: a, b, z :: c, d, ha, hc, h => by
    simp at h
    obtain ⟨rfl, h⟩ := h
    have := split_at (fun y hy => ha y (by simp [hy])) (fun y hy => hc y (by simp [hy])) h
    exact ⟨by rw [this.1], this.2⟩
/-- Each run has numbers below a hundred. -/
def Small (K : List (Int × Int)) : Prop := ∀ r ∈ K, 0 ≤ r.1 ∧ r.1 < 100 ∧ 0 ≤ r.2 ∧ r.2 < 100
theorem In.smallR {n : Int} {K : List (Int × Int)} (hN : Nrm K) (h : In n K) (hn : n ≤ 90) : Small K := fun r hr => by
  have := h.run hN hr; omega
theorem txtL_inj : ∀ {K L : List (Int × Int)}, Small K → Small L → txtL K = txtL L → K = L
  | [], [], _, _, _ => rfl
  | [], r :: L, _, _, h => by simp [txtL] at h
  | r :: K, [], _, _, h => by simp [txtL] at h
  | r :: K, q :: L, hK, hL, h => by
    have hr := hK r (by simp)
    have hq := hL q (by simp)
    have e : ∀ (r : Int × Int) (K : List (Int × Int)), txtL (r :: K) = dec r.1.toNat ++ 45 :: (dec r.2.toNat ++ 32 :: txtL K) := fun r K => by simp [txtL]
    rw [e, e] at h
    obtain ⟨h1, h2⟩ := split_at (fun y hy => (dec_bytes _ (by omega) y hy).1) (fun y hy => (dec_bytes _ (by omega) y hy).1) h
    obtain ⟨h3, h4⟩ := split_at (fun y hy => (dec_bytes _ (by omega) y hy).2) (fun y hy => (dec_bytes _ (by omega) y hy).2) h2
    have h5 := dec_inj (by omega) (by omega) h1
    have h6 := dec_inj (by omega) (by omega) h3
    have h7 := txtL_inj (fun r hr => hK r (by simp [hr])) (fun r hr => hL r (by simp [hr])) h4
    rw [h7, Prod.ext (show r.1 = q.1 by omega) (show r.2 = q.2 by omega)]
theorem txt_inj {K L : List (Int × Int)} (hK : Small K) (hL : Small L) (h : txt K = txt L) : K = L := by
  refine txtL_inj hK hL ?_
  have : (txtL K).toArray = (txtL L).toArray := congrArg ByteArray.data h
  simpa using this
theorem txtL_take (K : List (Int × Int)) (k : Nat) (h : k < K.length) : txtL (K.take (k + 1)) = txtL (K.take k) ++ dec K[k].1.toNat ++ [45] ++ dec K[k].2.toNat ++ [32] := by
  unfold txtL; rw [List.take_succ_eq_append_getElem h, List.flatMap_append]; simp
theorem txtL_len (K : List (Int × Int)) (hK : Small K) : (txtL K).length ≤ 6 * K.length := by
  induction K with
  | nil => simp [txtL]
  | cons r K ih =>
    have hr := hK r (by simp)
    have e : txtL (r :: K) = dec r.1.toNat ++ 45 :: (dec r.2.toNat ++ 32 :: txtL K) := by simp [txtL]
    have h1 := dec_len r.1.toNat (by omega)
    have h2 := dec_len r.2.toNat (by omega)
    have := ih (fun r hr => hK r (by simp [hr]))
    rw [e]
    simp only [List.length_append, List.length_cons]
    omega
theorem format_small (x : Int) (h0 : 0 ≤ x) (h1 : x < 100) (w : World) :
    Calls Tryd.prog 69 #[.int .i64 x, .int .i64 10] w fun e w' => e = .returned (.string ⟨(dec x.toNat).toArray⟩) ∧ w' = w := by
  obtain ⟨n, rfl⟩ : ∃ n : Nat, x = n := ⟨x.toNat, by omega⟩
  have := Tryd.strconv_FormatInt_10_small n (by omega) w
  rw [dec_eq (by omega)] at this
  simpa using this
theorem Bld.alloc {w : World} {B b : Nat} {l : List UInt8} (h : Bld w B b l) (o : Obj) : Bld (w.alloc o) B b l := Lib.IsBuilderF.alloc h o
theorem run_kept {w w' : World} {b nr : Nat} {x y : Value} (h : Lib.OthersKept 5 (some b) w w') (hr : w.heap[nr]? = some (.cells #[x, y] 75 (0, 0))) (hne : nr ≠ b) : w'.heap[nr]? = some (.cells #[x, y] 75 (0, 0)) :=
  h nr _ hr (fun e => hne (Option.some.inj e)) (fun c fz e => by injection e with h1 h2 h3; revert h2; decide)
set_option maxHeartbeats 2000000 in
theorem text_any (v : Value) (L : List (Int × Int)) (X : Nat → Prop) (w : World) (hL : Small L) (h5 : L.length < 1000) (hv : Rn w X v L) :
    Calls Tryd.prog 59 #[.agg #[v]] w fun e w' => e = .returned (.string (txt L)) ∧ Below w.heap.size w w' := by
  obtain ⟨a, c, rfl⟩ := hv.len
  obtain ⟨N, hN⟩ : ∃ N, w.heap.size = N := ⟨_, rfl⟩
  have hsz0 : (w.alloc (.cells #[.slice a L.length c] 61)).heap.size = N + 1 := by simp [hN]
  have hbld := bld_new (w.alloc (.cells #[.slice a L.length c] 61))
  rw [hsz0] at hbld
  have hb1 := below2 w (.cells #[.slice a L.length c] 61) (.cells #[.pointer none, .slice none 0 0] 100)
  obtain ⟨w1, hw1⟩ : ∃ w1, w1 = (w.alloc (.cells #[.slice a L.length c] 61)).alloc (.cells #[.pointer none, .slice none 0 0] 100) := ⟨_, rfl⟩
  have hsz1 : w1.heap.size = N + 2 := by rw [hw1]; simp [hN]
  rw [← hw1] at hbld hb1
  have HV := Lib.hid ((hv.all_low (bp := N + 1) (by omega)).below hb1)
  have HBL := Lib.hid hbld
  have HB1 := Lib.hid hb1
  have hlen : ∀ k, (txtL (L.take k)).length ≤ 6000 := fun k => by
    have h1 := txtL_len (L.take k) (fun r hr => hL r (List.mem_of_mem_take hr))
    have h2 : (L.take k).length ≤ L.length := by rw [List.length_take]; exact Nat.min_le_right _ _
    omega
  have HLEN := Lib.hid hlen
  have HL := Lib.hid hL
  clear hv hbld hb1 hlen hL hsz0
  go_enter Tryd.func59, Tryd.ntmps59
  go_wp2
  rw [← hw1]
  clear hw1
  go_loopw [9] (fun x wr => ∃ k : Nat, x = .int .i64 k ∧ k ≤ L.length ∧ Bld wr (N + 1) (N + 1) (txtL (L.take k)) ∧ Below (N + 1) w1 wr) (fun x _ => L.length - (intOf x).toNat)
  case atStart => exact ⟨0, rfl, Nat.zero_le _, HBL.out, Below.refl _ _⟩
  case round =>
    obtain ⟨k, rfl, hk, hbr, hor⟩ := hrel
    have hszr := hor.size
    by_cases hkl : k < L.length
    · obtain ⟨b, o, c', e, _, _, hrow⟩ := (HV.out.low hor).row (by omega)
      cases e
      obtain ⟨hx, hy⟩ := hrow k hkl
      clear hrow
      have hbd := HL.out L[k] (List.getElem_mem hkl)
      have HT := Lib.hid (txtL_take L k hkl)
      have hl0 := HLEN.out k
      obtain ⟨r1, hr1⟩ : ∃ z, L[k].1 = z := ⟨_, rfl⟩
      obtain ⟨r2, hr2⟩ : ∃ z, L[k].2 = z := ⟨_, rfl⟩
      rw [hr1, hr2] at hbd HT
      rw [hr1] at hx
      rw [hr2] at hy
      clear hr1 hr2
      obtain ⟨T, hT⟩ : ∃ T, txtL (L.take k) = T := ⟨_, rfl⟩
      rw [hT] at hbr HT hl0
      clear hT
      have hd1 := dec_len r1.toNat (by omega)
      have hd2 := dec_len r2.toNat (by omega)
      obtain ⟨nr, hnr⟩ : ∃ nr, wr.heap.size = nr := ⟨_, rfl⟩
      obtain ⟨w2, hw2⟩ : ∃ w2, wr.alloc (.cells #[.int .i64 r1, .int .i64 r2] 75) = w2 := ⟨_, rfl⟩
      have hb2 : Below (N + 1) w1 w2 := hor.trans (by rw [← hw2]; exact (below_one wr _).mono (by omega))
      have hrow2 : w2.heap[nr]? = some (.cells #[.int .i64 r1, .int .i64 r2] 75 (0, 0)) := by rw [← hw2, ← hnr]; exact heap_alloc_new wr _
      have hB0 : Bld w2 (N + 1) (N + 1) T := by rw [← hw2]; exact hbr.alloc _
      have hz2 : N + 1 ≤ w2.heap.size := by have := hb2.size; omega
      have hnn : nr ≠ N + 1 := by omega
      obtain ⟨d0, d1⟩ := pair_cells hrow2
      have HF1 := Lib.hid (fun w => format_small r1 hbd.1 hbd.2.1 w)
      have HF2 := Lib.hid (fun w => format_small r2 hbd.2.2.1 hbd.2.2.2 w)
      clear hbr hbd
      generalize dec r1.toNat = D1 at *
      generalize dec r2.toNat = D2 at *
      go_wp2_with (first
        | (go_at_call 69; (with_reducible refine (HF1.out _).mono ?_); rintro e w' ⟨rfl, rfl⟩)
        | (go_at_call 69; (with_reducible refine (HF2.out _).mono ?_); rintro e w' ⟨rfl, rfl⟩)
        | (go_at_call 68; (with_reducible refine (write_string (N + 1) (N + 1) T D1 _ hB0 (by omega) hz2).mono ?_); rintro e w3 ⟨rfl, hB1, hb3, hk3, hs3⟩; have hrow3 := run_kept hk3 hrow2 hnn)
        | (go_at_call 70; (with_reducible refine (write_byte (N + 1) (N + 1) (T ++ D1) 45 45 (by decide) _ hB1 (by rw [List.length_append]; omega) hs3).mono ?_); rintro e w4 ⟨rfl, hB2, hb4, hk4, hs4⟩; have hrow4 := run_kept hk4 hrow3 hnn; obtain ⟨e0, e1⟩ := pair_cells hrow4)
        | (go_at_call 68; (with_reducible refine (write_string (N + 1) (N + 1) (T ++ D1 ++ [45]) D2 _ hB2 (by simp only [List.length_append, List.length_cons, List.length_nil]; omega) hs4).mono ?_); rintro e w5 ⟨rfl, hB3, hb5, hk5, hs5⟩)
        | (go_at_call 70; (with_reducible refine (write_byte (N + 1) (N + 1) (T ++ D1 ++ [45] ++ D2) 32 32 (by decide) _ hB3 (by simp only [List.length_append, List.length_cons, List.length_nil]; omega) hs5).mono ?_); rintro e w6 ⟨rfl, hB4, hb6, hk6, hs6⟩))
      go_roundw
      case rel => exact ⟨k + 1, num_succ k, by omega, by rw [HT.out]; exact hB4, hb2.trans (hb3.trans (hb4.trans (hb5.trans hb6)))⟩
      case measure => simp [intOf]; omega
    · obtain rfl : k = L.length := by omega
      rw [List.take_length] at hbr
      have HBR := Lib.hid hbr
      clear hbr
      go_wp2_with (go_at_call 71; refine (string_bld (N + 1) (N + 1) _ _ HBR.out (by omega)).mono ?_; rintro e w2 ⟨rfl, hb2⟩)
      go_ret
      exact ⟨rfl, HB1.out.trans (by rw [hN]; exact (hor.trans hb2).mono (by omega))⟩
end Go.Proofs.YtooaamepflkgnaaDoor
set_option maxRecDepth 100000
namespace Go.Proofs.YtooaamepflkgnaaDoor
open Go.RowKit

/-- A map's block, set. -/
def setMap (w : World) (r : Nat) (es : Array MapEntry) (c : Nat) : World := { w with heap := w.heap.setIfInBounds r (.map es c) }
theorem setMap_at {w : World} {r : Nat} {es es' : Array MapEntry} {c c' : Nat} (h : w.heap[r]? = some (.map es c)) : (setMap w r es' c').heap[r]? = some (.map es' c') ∧ Out (fun k => k = r) w (setMap w r es' c') := by
  have hl := lt_of_block h
  refine ⟨by simp [setMap, hl], rfl, rfl, rfl, by simp [setMap], fun k _ hk => ?_⟩
  have hk : k ≠ r := hk
  simp [setMap, Ne.symm hk]
theorem Out.drew {X : Nat → Prop} {w w' : World} (h : Out X w w') : Out X w w'.drew := ⟨h.os, h.tape, h.output, h.size, h.block⟩
theorem map_under : Tryd.prog.underlying 67 = some (.map 9 61) := Tryd.underlying67
theorem key_under : Tryd.prog.underlying 9 = some .string := Tryd.underlying9
theorem look_any {w : World} {m c : Nat} {es : Array MapEntry} {text : ByteArray} (hb : w.heap[m]? = some (.map es c)) (hks : ∀ x ∈ es.toList, MapKept.IsKey .string x.key) :
    (∃ e ∈ es.toList, e.key = .string text ∧ (Instr.lookup 67 (.map (some m)) (.string text) true).run Tryd.prog w = .ok (.tuple #[e.val, .bool true]) w) ∨
    ((∀ e ∈ es.toList, e.key ≠ .string text) ∧ (Instr.lookup 67 (.map (some m)) (.string text) true).run Tryd.prog w = .ok (.tuple #[.agg #[.slice none 0 0], .bool false]) w) := by
  have hz : (zeroValue 61).run Tryd.prog w = .ok (.agg #[.slice none 0 0]) w := by kernel_rfl
  have hc : (Instr.checkKey es.isEmpty 10000 9 (.string text)).run Tryd.prog w = .ok () w := MapKept.run_checkKey (k := .string text) key_under trivial _ _
  rcases MapKept.findNow_spec (d := .string) (k := .string text) trivial es.toList 0 hks with ⟨h1, h2⟩ | ⟨j, e, h1, h2, h3⟩
  · refine .inr ⟨h2, ?_⟩
    simp [Instr.lookup, run_underlying map_under, MapKept.run_getObj_map hb, hc, MapKept.run_findKey key_under h1, Result.andThen, hz]
  · refine .inl ⟨e, List.mem_of_getElem? h2, h3, ?_⟩
    simp [Instr.lookup, run_underlying map_under, MapKept.run_getObj_map hb, hc, MapKept.run_findKey key_under h1, Result.andThen]
theorem put_any {w : World} {m c : Nat} {es : Array MapEntry} {text : ByteArray} (val : Value) (hb : w.heap[m]? = some (.map es c)) (hks : ∀ x ∈ es.toList, MapKept.IsKey .string x.key) :
    ∃ es' c', (Instr.mapUpdate 67 (.map (some m)) (.string text) val).run Tryd.prog w = .ok () (setMap w m es' c') ∧ ∀ e ∈ es'.toList, e ∈ es.toList ∨ (e.key = .string text ∧ e.val = val) := by
  have hc : ∀ b, (Instr.checkKey b 10000 9 (.string text)).run Tryd.prog w = .ok () w := fun b => MapKept.run_checkKey (k := .string text) key_under trivial _ _
  rcases MapKept.findNow_spec (d := .string) (k := .string text) trivial es.toList 0 hks with ⟨h1, h2⟩ | ⟨j, e, h1, h2, h3⟩
  · refine ⟨es.push { key := .string text, val := val, born := c }, c + 1, ?_, fun e he => ?_⟩
    · simp [Instr.mapUpdate, run_underlying map_under, MapKept.run_getObj_map hb, hc, MapKept.run_findKey key_under h1, MapKept.run_setObj_map _ hb, Result.andThen, setMap]
    · simp only [Array.toList_push, List.mem_append, List.mem_singleton] at he
      rcases he with he | rfl
      · exact .inl he
      · exact .inr ⟨rfl, rfl⟩
  · have hj : es[j]? = some e := by simpa using h2
    have hkt : (Instr.keyThatStays (.string text) (.string text)).run Tryd.prog w = .ok (.string text) w := MapKept.run_keyThatStays (d := .string) (k := .string text) trivial
    refine ⟨es.modify j (fun e => { e with key := .string text, val := val }), c, ?_, fun e he => ?_⟩
    · simp [Instr.mapUpdate, run_underlying map_under, MapKept.run_getObj_map hb, hc, MapKept.run_findKey key_under h1, hj, h3, hkt, MapKept.run_setObj_map _ hb, Result.andThen, setMap]
    · obtain ⟨i, hi, rfl⟩ := List.getElem_of_mem he
      have hi' : i < es.size := by simpa using hi
      rw [Array.getElem_toList, Array.getElem_modify]
      split
      · exact .inr ⟨rfl, rfl⟩
      · exact .inl (by simp)
theorem Memos.put {s : ByteArray} {mb : Nat → Option Pat} {X : Nat → Prop} {w : World} {m c c' : Nat} {p : Pat} {es es' : Array MapEntry} {K L : List (Int × Int)} {u : Value} (h : Memos s mb X w) (hm : mb m = some p) (hX : X m) (hmap : w.heap[m]? = some (.map es c))
    (hent : ∀ e ∈ es'.toList, e ∈ es.toList ∨ (e.key = .string (txt K) ∧ e.val = .agg #[u])) (hN : Nrm K) (hI : In s.size K) (hr : Rn w X u L) (he : EndsOf s (p.M s) K L) : Memos s mb X (setMap w m es' c') := by
  obtain ⟨h1, ho⟩ := setMap_at (es' := es') (c' := c') hmap
  have hrn : ∀ v L, Rn w X v L → Rn (setMap w m es' c') X v L := fun v L hr => hr.out ho (fun k _ e => by have e : k = m := e; rw [e]; exact hX)
  intro m' p' hp'
  by_cases e : m' = m
  · subst e
    obtain rfl : p' = p := by rw [hm] at hp'; exact (Option.some.inj hp').symm
    refine ⟨es', c', h1, fun x hx => ?_⟩
    rcases hent x hx with hx | ⟨e1, e2⟩
    · obtain ⟨es0, c0, g1, g2⟩ := h m' p' hm
      rw [hmap] at g1; cases g1
      obtain ⟨K', v, L', a, b, c, d, r, f⟩ := g2 x hx
      exact ⟨K', v, L', a, b, c, d, hrn v L' r, f⟩
    · exact ⟨K, u, L, e1, e2, hN, hI, hrn u L hr, he⟩
  · obtain ⟨es0, c0, g1, g2⟩ := h m' p' hp'
    refine ⟨es0, c0, (ho.block m' (lt_of_block g1) e).trans g1, fun x hx => ?_⟩
    obtain ⟨K', v, L', a, b, c, d, r, f⟩ := g2 x hx
    exact ⟨K', v, L', a, b, c, d, hrn v L' r, f⟩
set_option maxHeartbeats 2000000 in
theorem once_times (s : ByteArray) (mb : Nat → Option Pat) (p : Pat) (rep : Bool) (b : Nat) (rv : Value) (K : List (Int × Int))
    (hF : ∀ (X : Nat → Prop) (w : World) (v : Value), Pre s mb X v K w → TreeP w mb p rep b → Calls Tryd.prog 46 #[mV rv s, pV b, .agg #[v]] w (Post s mb X (p.M s) K w))
    (X : Nat → Prop) (w : World) (v : Value) (hp : Pre s mb X v K w) (ht : TreeP w mb p rep b) :
    Calls Tryd.prog 45 #[pV b, .agg #[v], .func (.func 46) #[mV rv s] #[]] w (Post s mb X (p.M s) K w) := by
  obtain ⟨a, c, rfl⟩ := hp.rn.len
  have ht0 := ht
  rw [TreeP_eq] at ht
  obtain ⟨ks, kn, bs, hpb, hmb, hkn, _, _⟩ := ht
  obtain ⟨N, hN⟩ : ∃ N, w.heap.size = N := ⟨_, rfl⟩
  have hb1 : Below w.heap.size w ((w.alloc (.cells #[.slice a K.length c] 61)).alloc (.cells #[.slice none 0 0] 61)) := below2 w _ _
  have hpb1 := (hb1.block b (lt_of_block hpb)).trans hpb
  obtain ⟨q0, q5, q6, q7, q8⟩ := part_cells hpb1
  obtain ⟨w1, hw1⟩ : ∃ w1, w1 = (w.alloc (.cells #[.slice a K.length c] 61)).alloc (.cells #[.slice none 0 0] 61) := ⟨_, rfl⟩
  have hsz1 : w1.heap.size = N + 2 := by rw [hw1]; simp [hN]
  have h0 : w1.heap[N]? = some (.cells #[.slice a K.length c] 61 (0, 0)) := by
    rw [hw1, heap_alloc_old _ _ (by simp; omega), ← hN]; exact heap_alloc_new w _
  have h1 : w1.heap[N + 1]? = some (.cells #[.slice none 0 0] 61 (0, 0)) := by
    have := heap_alloc_new (w.alloc (.cells #[.slice a K.length c] 61)) (.cells #[.slice none 0 0] 61)
    rw [World.size_alloc, hN] at this
    rw [hw1]; exact this
  rw [← hw1] at hb1 hpb1
  have hm1 : mb (N + 1) = none := hp.new_none (by omega)
  have hm0 : mb N = none := hp.new_none (by omega)
  have HP := Lib.hid hp
  have HF := Lib.hid hF
  have HT := Lib.hid ht0
  have HB1 := Lib.hid hb1
  have HPB := Lib.hid hpb1
  have H0 := Lib.hid h0
  have H1 := Lib.hid h1
  have HM1 := Lib.hid hm1
  have HM0 := Lib.hid hm0
  have HMB := Lib.hid hmb
  have HW1 := Lib.hid hw1
  clear hp hF ht0 hb1 hpb1 h0 h1 hm1 hm0 hmb hpb q0 q5 q6 q7
  by_cases hkeep : keeps p rep = true
  · rw [if_pos hkeep] at hkn
    obtain ⟨m, rfl, hm⟩ := hkn
    have HM := Lib.hid hm
    clear hm hw1 hkeep
    have hnn : ∀ w : World, (binOp .eql 67 (.map (some m)) (.map none)).run Tryd.prog w = .ok (.bool false) w := fun w => by kernel_rfl
    go_enter Tryd.func45, Tryd.ntmps45
    go_wp2_with (go_at_call 59; rw [← HW1.out]; refine (text_any (.slice a K.length c) K _ w1 (HP.out.inn.smallR HP.out.nrm (by have := HP.out.sz; omega)) (by have := HP.out.inn.len HP.out.nrm (by omega); have := HP.out.sz; omega) (HP.out.rn.below HB1.out)).mono ?_; rintro e w2 ⟨rfl, hb2⟩; have hpb2 := (hb2.block b (lt_of_block HPB.out)).trans HPB.out; obtain ⟨_, _, _, _, q82⟩ := part_cells hpb2; have hmm2 := (HP.out.loc (HB1.out.trans (hb2.mono HB1.out.size)) hN (N := N) (B := N + 2) (by have := hb2.size; omega)).memo; have hbx2 := (hb2.block N (by omega)).trans H0.out; have hbr2 := (hb2.block (N + 1) (by omega)).trans H1.out)
    clear q8
    have hb02 : Below w.heap.size w w2 := HB1.out.trans (hb2.mono HB1.out.size)
    obtain ⟨nt, hnt⟩ : ∃ nt, w2.heap.size = nt := ⟨_, rfl⟩
    have hsz2 := hb2.size
    obtain ⟨es, ck, hmap, hent⟩ := hmm2 m p HM.out
    have hks : ∀ x ∈ es.toList, MapKept.IsKey .string x.key := fun x hx => by
      obtain ⟨K', v', L', e1, _⟩ := hent x hx
      rw [e1]; trivial
    have HB02 := Lib.hid hb02
    have HMM2 := Lib.hid hmm2
    have HPB2 := Lib.hid hpb2
    have HBR2 := Lib.hid hbr2
    have HBX2 := Lib.hid hbx2
    clear hb02 hmm2 hpb2 hbr2 hbx2 hb2
    rcases look_any (text := txt K) hmap hks with ⟨e, he, hek, hl⟩ | ⟨hno, hl⟩
    · obtain ⟨K', v', L', e1, e2, hKN, hKI, hr', hE'⟩ := hent e he
      have hKK : K' = K := txt_inj (hKI.smallR hKN (by have := HP.out.sz; omega)) (HP.out.inn.smallR HP.out.nrm (by have := HP.out.sz; omega)) (by rw [hek] at e1; exact (Value.string.inj e1).symm)
      subst hKK
      rw [e2] at hl
      obtain ⟨a9, c9, rfl⟩ := hr'.len
      have HR := Lib.hid hr'
      have HE := Lib.hid hE'
      clear hent hr' hE' he hek e1 e2 hKN hKI hks hmap
      obtain ⟨w3, hw3⟩ : ∃ w3, w3 = w2.alloc (.cells #[.slice a9 L'.length c9] 61) := ⟨_, rfl⟩
      have hb23 : Below w2.heap.size w2 w3 := by rw [hw3]; exact below_one w2 _
      have hbr3 := (hb23.block (N + 1) (by omega)).trans HBR2.out
      have hc3 := box_cell hbr3
      have hf3 := frozen_row (j := 0) hbr3
      have hb03 : Below w.heap.size w w3 := HB02.out.trans (hb23.mono HB02.out.size)
      have hF3 := fin_post (R := p.M s) (r0 := N + 1) (B := N + 2) (wr := w3) HP.out (Out.below hb03) hN rfl (HR.out.below hb23) HE.out (HP.out.loc hb03 hN (by have := hb23.size; omega)).memo (by omega) (by omega) HM1.out
      have HF3 := Lib.hid hF3
      clear hF3 hbr3 hb23 hb03
      rw [hw3] at hc3 hf3 HF3
      clear hw3
      rw [hl]
      simp only [Result.andThen_ok]
      clear hl
      go_wp2
      exact bodyPost_ret (v := .agg #[.slice a9 L'.length c9]) (by simp [results, Tryd.results45, go_sem, *]) rfl HF3.out
    · obtain ⟨w3, hw3⟩ : ∃ w3, w3 = w2.alloc (.cells #[.slice none 0 0] 61) := ⟨_, rfl⟩
      have hb23 : Below w2.heap.size w2 w3 := by rw [hw3]; exact below_one w2 _
      have hb03 : Below w.heap.size w w3 := HB02.out.trans (hb23.mono HB02.out.size)
      have hsz3 : w3.heap.size = nt + 1 := by rw [hw3]; simp [hnt]
      have hbt3 : w3.heap[nt]? = some (.cells #[.slice none 0 0] 61 (0, 0)) := by rw [hw3, ← hnt]; exact heap_alloc_new w2 _
      have hmt : mb nt = none := HP.out.new_none (by omega)
      have hp3 := HP.out.loc hb03 hN (N := N) (B := nt + 1) (by omega)
      have hc3 := box_cell ((hb23.block N (by omega)).trans HBX2.out)
      have hbr3 := (hb23.block (N + 1) (by omega)).trans HBR2.out
      have hpb3 := (hb23.block b (lt_of_block HPB2.out)).trans HPB2.out
      have HC := Lib.hid (HF.out _ w3 _ hp3 (TreeP.out (Out.below hb03) p HT.out))
      have HB03 := Lib.hid hb03
      have HBT3 := Lib.hid hbt3
      have HMT := Lib.hid hmt
      have HP3 := Lib.hid hp3
      have HBR3 := Lib.hid hbr3
      have HPB3 := Lib.hid hpb3
      have HW3 := Lib.hid hw3
      rw [hw3] at hc3
      clear hb23 hb03 hbt3 hmt hp3 hbr3 hpb3 hno hent hks hmap hw3
      rw [hl]
      simp only [Result.andThen_ok]
      clear hl
      go_wp2_with (go_at_call 46; rw [← HW3.out]; refine HC.out.mono ?_; rintro e w4 ⟨a6, n6, c6, L6, rfl, hr6, he6, ho6, hm6⟩; have hbt4 := (ho6.block nt (by omega) (fun h => h HMT.out)).trans HBT3.out; have hct4 := box_cell hbt4; have hft4 := frozen_row (j := 0) hbt4)
      have hbt5 := box_set hbt4 (.slice a6 n6 c6)
      have hst5 : Out (fun k => k = nt) w4 (w4.setCell ⟨nt, 0, none⟩ (.slice a6 n6 c6)) := Out.set (X := fun k => k = nt) w4 0 _ rfl
      have hX1t : Loc X N (nt + 1) nt := .inr ⟨by omega, by omega⟩
      have hr5 := hr6.out hst5 (fun k _ e => by have e : k = nt := e; rw [e]; exact hX1t)
      have hm5 := hm6.out hst5 (fun k _ e => by have e : k = nt := e; rw [e]; exact ⟨hX1t, HMT.out⟩)
      have ho5 : Out (Xm mb) w (w4.setCell ⟨nt, 0, none⟩ (.slice a6 n6 c6)) := ((Out.below HB03.out).comp ho6 (fun _ _ h => h)).comp hst5 (fun i hi e => by have e : i = nt := e; omega)
      have hpb5 := (hst5.block b (lt_of_block ((ho6.block b (lt_of_block HPB3.out) (fun h => h HMB.out)).trans HPB3.out)) (fun e => by have e : b = nt := e; have := lt_of_block HPB2.out; omega)).trans ((ho6.block b (lt_of_block HPB3.out) (fun h => h HMB.out)).trans HPB3.out)
      have hbr4 := (ho6.block (N + 1) (by omega) (fun h => h HM1.out)).trans HBR3.out
      have hbr5 := (hst5.block (N + 1) (lt_of_block hbr4) (fun e => by have e : N + 1 = nt := e; omega)).trans hbr4
      obtain ⟨_, _, _, _, q85⟩ := part_cells hpb5
      have q85d : (w4.setCell ⟨nt, 0, none⟩ (.slice a6 n6 c6)).drew.cell? ⟨b, 8, none⟩ = some (.map (some m)) := q85
      have hcu5 := box_cell hbt5
      have hcu5d : (w4.setCell ⟨nt, 0, none⟩ (.slice a6 n6 c6)).drew.cell? ⟨nt, 0, none⟩ = some (.slice a6 n6 c6) := hcu5
      obtain ⟨es5, ck5, hmap5, hent5⟩ := hm5 m p HM.out
      obtain ⟨es', ck', hput, hent'⟩ := put_any (w := (w4.setCell ⟨nt, 0, none⟩ (.slice a6 n6 c6)).drew) (m := m) (text := txt K) (.agg #[.slice a6 n6 c6]) hmap5 (fun x hx => by
        obtain ⟨K', v', L', e1, _⟩ := hent5 x hx
        rw [e1]; trivial)
      obtain ⟨_, hso⟩ := setMap_at (w := (w4.setCell ⟨nt, 0, none⟩ (.slice a6 n6 c6)).drew) (es' := es') (c' := ck') hmap5
      have hXm : Xm mb m := by unfold Xm; rw [HM.out]; simp
      have hmnt : m ≠ nt := fun e => by subst e; rw [hbt5] at hmap5; cases hmap5
      have hmn1 : m ≠ N + 1 := fun e => by subst e; rw [hbr5] at hmap5; cases hmap5
      have hm6' := Memos.put (w := (w4.setCell ⟨nt, 0, none⟩ (.slice a6 n6 c6)).drew) (es' := es') (c' := ck') hm5 HM.out (.inl (HP.out.xm m hXm)) hmap5 hent' HP.out.nrm HP.out.inn hr5 he6
      have hcu6 := box_cell ((hso.block nt (lt_of_block hbt5) (fun e => hmnt e.symm)).trans hbt5)
      have hbr6 := (hso.block (N + 1) (lt_of_block hbr5) (fun e => hmn1 e.symm)).trans hbr5
      have hcr6 := box_cell hbr6
      have hfr6 := frozen_row (j := 0) hbr6
      have hr6' := hr5.drew.out hso (fun k _ e => by have e : k = m := e; rw [e]; exact .inl (HP.out.xm m hXm))
      have hF3 := fin_post (R := p.M s) (r0 := N + 1) (B := nt + 1) HP.out (ho5.drew.comp hso (fun i _ e => by have e : i = m := e; rw [e]; exact hXm)) hN rfl hr6' he6 hm6' (by omega) (by omega) HM1.out
      have HF3 := Lib.hid hF3
      clear hF3 hr6' hm6' hso hmap5 hent5 hent' hm5 hr5 ho5 hbr4 hbr5 hpb5 hst5 hbt5 hbt4 hct4 hft4 hr6 he6 ho6 hm6 hbr6 hmnt hmn1 hXm hX1t
      generalize (w4.setCell ⟨nt, 0, none⟩ (.slice a6 n6 c6)) = w5 at *
      go_wp2
      go_still_tail 6, (by kernel_rfl)
      go_wp2
      exact bodyPost_ret (v := .agg #[.slice a6 n6 c6]) (by simp [results, Tryd.results45, go_sem, *]) rfl HF3.out
  · rw [if_neg hkeep] at hkn
    subst hkn
    have hnn : ∀ w : World, (binOp .eql 67 (.map none) (.map none)).run Tryd.prog w = .ok (.bool true) w := fun w => by kernel_rfl
    have hp1 := HP.out.loc HB1.out hN (N := N) (B := N + 2) (by omega)
    have HC := Lib.hid (HF.out _ w1 _ hp1 (TreeP.out (Out.below HB1.out) p HT.out))
    clear hp1 hw1 hkeep
    go_enter Tryd.func45, Tryd.ntmps45
    go_wp2_with (go_at_call 46; rw [← HW1.out]; refine HC.out.mono ?_; rintro e w4 ⟨a6, n6, c6, L6, rfl, hr6, he6, ho6, hm6⟩; have hbr4 := (ho6.block (N + 1) (by omega) (fun h => h HM1.out)).trans H1.out; have hct4 := box_cell hbr4; have hft4 := frozen_row (j := 0) hbr4)
    have hF3 := fin_post (R := p.M s) (r0 := N + 1) (B := N + 2) HP.out ((Out.below HB1.out).comp ho6 (fun _ _ h => h)) hN rfl hr6 he6 hm6 (by omega) (by omega) HM1.out
    have HF3 := Lib.hid hF3
    clear hF3
    exact bodyPost_ret (v := .agg #[.slice a6 n6 c6]) (by simp [results, Tryd.results45, go_sem, *]) rfl HF3.out
set_option maxHeartbeats 2000000 in
theorem once_both (s : ByteArray) (mb : Nat → Option Pat) (p : Pat) (rep : Bool) (b : Nat) (rv : Value) (K : List (Int × Int))
    (hF : ∀ (X : Nat → Prop) (w : World) (v : Value), Pre s mb X v K w → TreeP w mb p rep b → Calls Tryd.prog 48 #[mV rv s, pV b, .agg #[v]] w (Post s mb X (p.M s) K w))
    (X : Nat → Prop) (w : World) (v : Value) (hp : Pre s mb X v K w) (ht : TreeP w mb p rep b) :
    Calls Tryd.prog 45 #[pV b, .agg #[v], .func (.func 48) #[mV rv s] #[]] w (Post s mb X (p.M s) K w) := by
  obtain ⟨a, c, rfl⟩ := hp.rn.len
  have ht0 := ht
  rw [TreeP_eq] at ht
  obtain ⟨ks, kn, bs, hpb, hmb, hkn, _, _⟩ := ht
  obtain ⟨N, hN⟩ : ∃ N, w.heap.size = N := ⟨_, rfl⟩
  have hb1 : Below w.heap.size w ((w.alloc (.cells #[.slice a K.length c] 61)).alloc (.cells #[.slice none 0 0] 61)) := below2 w _ _
  have hpb1 := (hb1.block b (lt_of_block hpb)).trans hpb
  obtain ⟨q0, q5, q6, q7, q8⟩ := part_cells hpb1
  obtain ⟨w1, hw1⟩ : ∃ w1, w1 = (w.alloc (.cells #[.slice a K.length c] 61)).alloc (.cells #[.slice none 0 0] 61) := ⟨_, rfl⟩
  have hsz1 : w1.heap.size = N + 2 := by rw [hw1]; simp [hN]
  have h0 : w1.heap[N]? = some (.cells #[.slice a K.length c] 61 (0, 0)) := by
    rw [hw1, heap_alloc_old _ _ (by simp; omega), ← hN]; exact heap_alloc_new w _
  have h1 : w1.heap[N + 1]? = some (.cells #[.slice none 0 0] 61 (0, 0)) := by
    have := heap_alloc_new (w.alloc (.cells #[.slice a K.length c] 61)) (.cells #[.slice none 0 0] 61)
    rw [World.size_alloc, hN] at this
    rw [hw1]; exact this
  rw [← hw1] at hb1 hpb1
  have hm1 : mb (N + 1) = none := hp.new_none (by omega)
  have hm0 : mb N = none := hp.new_none (by omega)
  have HP := Lib.hid hp
  have HF := Lib.hid hF
  have HT := Lib.hid ht0
  have HB1 := Lib.hid hb1
  have HPB := Lib.hid hpb1
  have H0 := Lib.hid h0
  have H1 := Lib.hid h1
  have HM1 := Lib.hid hm1
  have HM0 := Lib.hid hm0
  have HMB := Lib.hid hmb
  have HW1 := Lib.hid hw1
  clear hp hF ht0 hb1 hpb1 h0 h1 hm1 hm0 hmb hpb q0 q5 q6 q7
  by_cases hkeep : keeps p rep = true
  · rw [if_pos hkeep] at hkn
    obtain ⟨m, rfl, hm⟩ := hkn
    have HM := Lib.hid hm
    clear hm hw1 hkeep
    have hnn : ∀ w : World, (binOp .eql 67 (.map (some m)) (.map none)).run Tryd.prog w = .ok (.bool false) w := fun w => by kernel_rfl
    go_enter Tryd.func45, Tryd.ntmps45
    go_wp2_with (go_at_call 59; rw [← HW1.out]; refine (text_any (.slice a K.length c) K _ w1 (HP.out.inn.smallR HP.out.nrm (by have := HP.out.sz; omega)) (by have := HP.out.inn.len HP.out.nrm (by omega); have := HP.out.sz; omega) (HP.out.rn.below HB1.out)).mono ?_; rintro e w2 ⟨rfl, hb2⟩; have hpb2 := (hb2.block b (lt_of_block HPB.out)).trans HPB.out; obtain ⟨_, _, _, _, q82⟩ := part_cells hpb2; have hmm2 := (HP.out.loc (HB1.out.trans (hb2.mono HB1.out.size)) hN (N := N) (B := N + 2) (by have := hb2.size; omega)).memo; have hbx2 := (hb2.block N (by omega)).trans H0.out; have hbr2 := (hb2.block (N + 1) (by omega)).trans H1.out)
    clear q8
    have hb02 : Below w.heap.size w w2 := HB1.out.trans (hb2.mono HB1.out.size)
    obtain ⟨nt, hnt⟩ : ∃ nt, w2.heap.size = nt := ⟨_, rfl⟩
    have hsz2 := hb2.size
    obtain ⟨es, ck, hmap, hent⟩ := hmm2 m p HM.out
    have hks : ∀ x ∈ es.toList, MapKept.IsKey .string x.key := fun x hx => by
      obtain ⟨K', v', L', e1, _⟩ := hent x hx
      rw [e1]; trivial
    have HB02 := Lib.hid hb02
    have HMM2 := Lib.hid hmm2
    have HPB2 := Lib.hid hpb2
    have HBR2 := Lib.hid hbr2
    have HBX2 := Lib.hid hbx2
    clear hb02 hmm2 hpb2 hbr2 hbx2 hb2
    rcases look_any (text := txt K) hmap hks with ⟨e, he, hek, hl⟩ | ⟨hno, hl⟩
    · obtain ⟨K', v', L', e1, e2, hKN, hKI, hr', hE'⟩ := hent e he
      have hKK : K' = K := txt_inj (hKI.smallR hKN (by have := HP.out.sz; omega)) (HP.out.inn.smallR HP.out.nrm (by have := HP.out.sz; omega)) (by rw [hek] at e1; exact (Value.string.inj e1).symm)
      subst hKK
      rw [e2] at hl
      obtain ⟨a9, c9, rfl⟩ := hr'.len
      have HR := Lib.hid hr'
      have HE := Lib.hid hE'
      clear hent hr' hE' he hek e1 e2 hKN hKI hks hmap
      obtain ⟨w3, hw3⟩ : ∃ w3, w3 = w2.alloc (.cells #[.slice a9 L'.length c9] 61) := ⟨_, rfl⟩
      have hb23 : Below w2.heap.size w2 w3 := by rw [hw3]; exact below_one w2 _
      have hbr3 := (hb23.block (N + 1) (by omega)).trans HBR2.out
      have hc3 := box_cell hbr3
      have hf3 := frozen_row (j := 0) hbr3
      have hb03 : Below w.heap.size w w3 := HB02.out.trans (hb23.mono HB02.out.size)
      have hF3 := fin_post (R := p.M s) (r0 := N + 1) (B := N + 2) (wr := w3) HP.out (Out.below hb03) hN rfl (HR.out.below hb23) HE.out (HP.out.loc hb03 hN (by have := hb23.size; omega)).memo (by omega) (by omega) HM1.out
      have HF3 := Lib.hid hF3
      clear hF3 hbr3 hb23 hb03
      rw [hw3] at hc3 hf3 HF3
      clear hw3
      rw [hl]
      simp only [Result.andThen_ok]
      clear hl
      go_wp2
      exact bodyPost_ret (v := .agg #[.slice a9 L'.length c9]) (by simp [results, Tryd.results45, go_sem, *]) rfl HF3.out
    · obtain ⟨w3, hw3⟩ : ∃ w3, w3 = w2.alloc (.cells #[.slice none 0 0] 61) := ⟨_, rfl⟩
      have hb23 : Below w2.heap.size w2 w3 := by rw [hw3]; exact below_one w2 _
      have hb03 : Below w.heap.size w w3 := HB02.out.trans (hb23.mono HB02.out.size)
      have hsz3 : w3.heap.size = nt + 1 := by rw [hw3]; simp [hnt]
      have hbt3 : w3.heap[nt]? = some (.cells #[.slice none 0 0] 61 (0, 0)) := by rw [hw3, ← hnt]; exact heap_alloc_new w2 _
      have hmt : mb nt = none := HP.out.new_none (by omega)
      have hp3 := HP.out.loc hb03 hN (N := N) (B := nt + 1) (by omega)
      have hc3 := box_cell ((hb23.block N (by omega)).trans HBX2.out)
      have hbr3 := (hb23.block (N + 1) (by omega)).trans HBR2.out
      have hpb3 := (hb23.block b (lt_of_block HPB2.out)).trans HPB2.out
      have HC := Lib.hid (HF.out _ w3 _ hp3 (TreeP.out (Out.below hb03) p HT.out))
      have HB03 := Lib.hid hb03
      have HBT3 := Lib.hid hbt3
      have HMT := Lib.hid hmt
      have HP3 := Lib.hid hp3
      have HBR3 := Lib.hid hbr3
      have HPB3 := Lib.hid hpb3
      have HW3 := Lib.hid hw3
      rw [hw3] at hc3
      clear hb23 hb03 hbt3 hmt hp3 hbr3 hpb3 hno hent hks hmap hw3
      rw [hl]
      simp only [Result.andThen_ok]
      clear hl
      go_wp2_with (go_at_call 48; rw [← HW3.out]; refine HC.out.mono ?_; rintro e w4 ⟨a6, n6, c6, L6, rfl, hr6, he6, ho6, hm6⟩; have hbt4 := (ho6.block nt (by omega) (fun h => h HMT.out)).trans HBT3.out; have hct4 := box_cell hbt4; have hft4 := frozen_row (j := 0) hbt4)
      have hbt5 := box_set hbt4 (.slice a6 n6 c6)
      have hst5 : Out (fun k => k = nt) w4 (w4.setCell ⟨nt, 0, none⟩ (.slice a6 n6 c6)) := Out.set (X := fun k => k = nt) w4 0 _ rfl
      have hX1t : Loc X N (nt + 1) nt := .inr ⟨by omega, by omega⟩
      have hr5 := hr6.out hst5 (fun k _ e => by have e : k = nt := e; rw [e]; exact hX1t)
      have hm5 := hm6.out hst5 (fun k _ e => by have e : k = nt := e; rw [e]; exact ⟨hX1t, HMT.out⟩)
      have ho5 : Out (Xm mb) w (w4.setCell ⟨nt, 0, none⟩ (.slice a6 n6 c6)) := ((Out.below HB03.out).comp ho6 (fun _ _ h => h)).comp hst5 (fun i hi e => by have e : i = nt := e; omega)
      have hpb5 := (hst5.block b (lt_of_block ((ho6.block b (lt_of_block HPB3.out) (fun h => h HMB.out)).trans HPB3.out)) (fun e => by have e : b = nt := e; have := lt_of_block HPB2.out; omega)).trans ((ho6.block b (lt_of_block HPB3.out) (fun h => h HMB.out)).trans HPB3.out)
      have hbr4 := (ho6.block (N + 1) (by omega) (fun h => h HM1.out)).trans HBR3.out
      have hbr5 := (hst5.block (N + 1) (lt_of_block hbr4) (fun e => by have e : N + 1 = nt := e; omega)).trans hbr4
      obtain ⟨_, _, _, _, q85⟩ := part_cells hpb5
      have q85d : (w4.setCell ⟨nt, 0, none⟩ (.slice a6 n6 c6)).drew.cell? ⟨b, 8, none⟩ = some (.map (some m)) := q85
      have hcu5 := box_cell hbt5
      have hcu5d : (w4.setCell ⟨nt, 0, none⟩ (.slice a6 n6 c6)).drew.cell? ⟨nt, 0, none⟩ = some (.slice a6 n6 c6) := hcu5
      obtain ⟨es5, ck5, hmap5, hent5⟩ := hm5 m p HM.out
      obtain ⟨es', ck', hput, hent'⟩ := put_any (w := (w4.setCell ⟨nt, 0, none⟩ (.slice a6 n6 c6)).drew) (m := m) (text := txt K) (.agg #[.slice a6 n6 c6]) hmap5 (fun x hx => by
        obtain ⟨K', v', L', e1, _⟩ := hent5 x hx
        rw [e1]; trivial)
      obtain ⟨_, hso⟩ := setMap_at (w := (w4.setCell ⟨nt, 0, none⟩ (.slice a6 n6 c6)).drew) (es' := es') (c' := ck') hmap5
      have hXm : Xm mb m := by unfold Xm; rw [HM.out]; simp
      have hmnt : m ≠ nt := fun e => by subst e; rw [hbt5] at hmap5; cases hmap5
      have hmn1 : m ≠ N + 1 := fun e => by subst e; rw [hbr5] at hmap5; cases hmap5
      have hm6' := Memos.put (w := (w4.setCell ⟨nt, 0, none⟩ (.slice a6 n6 c6)).drew) (es' := es') (c' := ck') hm5 HM.out (.inl (HP.out.xm m hXm)) hmap5 hent' HP.out.nrm HP.out.inn hr5 he6
      have hcu6 := box_cell ((hso.block nt (lt_of_block hbt5) (fun e => hmnt e.symm)).trans hbt5)
      have hbr6 := (hso.block (N + 1) (lt_of_block hbr5) (fun e => hmn1 e.symm)).trans hbr5
      have hcr6 := box_cell hbr6
      have hfr6 := frozen_row (j := 0) hbr6
      have hr6' := hr5.drew.out hso (fun k _ e => by have e : k = m := e; rw [e]; exact .inl (HP.out.xm m hXm))
      have hF3 := fin_post (R := p.M s) (r0 := N + 1) (B := nt + 1) HP.out (ho5.drew.comp hso (fun i _ e => by have e : i = m := e; rw [e]; exact hXm)) hN rfl hr6' he6 hm6' (by omega) (by omega) HM1.out
      have HF3 := Lib.hid hF3
      clear hF3 hr6' hm6' hso hmap5 hent5 hent' hm5 hr5 ho5 hbr4 hbr5 hpb5 hst5 hbt5 hbt4 hct4 hft4 hr6 he6 ho6 hm6 hbr6 hmnt hmn1 hXm hX1t
      generalize (w4.setCell ⟨nt, 0, none⟩ (.slice a6 n6 c6)) = w5 at *
      go_wp2
      go_still_tail 6, (by kernel_rfl)
      go_wp2
      exact bodyPost_ret (v := .agg #[.slice a6 n6 c6]) (by simp [results, Tryd.results45, go_sem, *]) rfl HF3.out
  · rw [if_neg hkeep] at hkn
    subst hkn
    have hnn : ∀ w : World, (binOp .eql 67 (.map none) (.map none)).run Tryd.prog w = .ok (.bool true) w := fun w => by kernel_rfl
    have hp1 := HP.out.loc HB1.out hN (N := N) (B := N + 2) (by omega)
    have HC := Lib.hid (HF.out _ w1 _ hp1 (TreeP.out (Out.below HB1.out) p HT.out))
    clear hp1 hw1 hkeep
    go_enter Tryd.func45, Tryd.ntmps45
    go_wp2_with (go_at_call 48; rw [← HW1.out]; refine HC.out.mono ?_; rintro e w4 ⟨a6, n6, c6, L6, rfl, hr6, he6, ho6, hm6⟩; have hbr4 := (ho6.block (N + 1) (by omega) (fun h => h HM1.out)).trans H1.out; have hct4 := box_cell hbr4; have hft4 := frozen_row (j := 0) hbr4)
    have hF3 := fin_post (R := p.M s) (r0 := N + 1) (B := N + 2) HP.out ((Out.below HB1.out).comp ho6 (fun _ _ h => h)) hN rfl hr6 he6 hm6 (by omega) (by omega) HM1.out
    have HF3 := Lib.hid hF3
    clear hF3
    exact bodyPost_ret (v := .agg #[.slice a6 n6 c6]) (by simp [results, Tryd.results45, go_sem, *]) rfl HF3.out
set_option maxHeartbeats 2000000 in
theorem once_other (s : ByteArray) (mb : Nat → Option Pat) (p : Pat) (rep : Bool) (b : Nat) (rv : Value) (K : List (Int × Int))
    (hF : ∀ (X : Nat → Prop) (w : World) (v : Value), Pre s mb X v K w → TreeP w mb p rep b → Calls Tryd.prog 49 #[mV rv s, pV b, .agg #[v]] w (Post s mb X (p.M s) K w))
    (X : Nat → Prop) (w : World) (v : Value) (hp : Pre s mb X v K w) (ht : TreeP w mb p rep b) :
    Calls Tryd.prog 45 #[pV b, .agg #[v], .func (.func 49) #[mV rv s] #[]] w (Post s mb X (p.M s) K w) := by
  obtain ⟨a, c, rfl⟩ := hp.rn.len
  have ht0 := ht
  rw [TreeP_eq] at ht
  obtain ⟨ks, kn, bs, hpb, hmb, hkn, _, _⟩ := ht
  obtain ⟨N, hN⟩ : ∃ N, w.heap.size = N := ⟨_, rfl⟩
  have hb1 : Below w.heap.size w ((w.alloc (.cells #[.slice a K.length c] 61)).alloc (.cells #[.slice none 0 0] 61)) := below2 w _ _
  have hpb1 := (hb1.block b (lt_of_block hpb)).trans hpb
  obtain ⟨q0, q5, q6, q7, q8⟩ := part_cells hpb1
  obtain ⟨w1, hw1⟩ : ∃ w1, w1 = (w.alloc (.cells #[.slice a K.length c] 61)).alloc (.cells #[.slice none 0 0] 61) := ⟨_, rfl⟩
  have hsz1 : w1.heap.size = N + 2 := by rw [hw1]; simp [hN]
  have h0 : w1.heap[N]? = some (.cells #[.slice a K.length c] 61 (0, 0)) := by
    rw [hw1, heap_alloc_old _ _ (by simp; omega), ← hN]; exact heap_alloc_new w _
  have h1 : w1.heap[N + 1]? = some (.cells #[.slice none 0 0] 61 (0, 0)) := by
    have := heap_alloc_new (w.alloc (.cells #[.slice a K.length c] 61)) (.cells #[.slice none 0 0] 61)
    rw [World.size_alloc, hN] at this
    rw [hw1]; exact this
  rw [← hw1] at hb1 hpb1
  have hm1 : mb (N + 1) = none := hp.new_none (by omega)
  have hm0 : mb N = none := hp.new_none (by omega)
  have HP := Lib.hid hp
  have HF := Lib.hid hF
  have HT := Lib.hid ht0
  have HB1 := Lib.hid hb1
  have HPB := Lib.hid hpb1
  have H0 := Lib.hid h0
  have H1 := Lib.hid h1
  have HM1 := Lib.hid hm1
  have HM0 := Lib.hid hm0
  have HMB := Lib.hid hmb
  have HW1 := Lib.hid hw1
  clear hp hF ht0 hb1 hpb1 h0 h1 hm1 hm0 hmb hpb q0 q5 q6 q7
  by_cases hkeep : keeps p rep = true
  · rw [if_pos hkeep] at hkn
    obtain ⟨m, rfl, hm⟩ := hkn
    have HM := Lib.hid hm
    clear hm hw1 hkeep
    have hnn : ∀ w : World, (binOp .eql 67 (.map (some m)) (.map none)).run Tryd.prog w = .ok (.bool false) w := fun w => by kernel_rfl
    go_enter Tryd.func45, Tryd.ntmps45
    go_wp2_with (go_at_call 59; rw [← HW1.out]; refine (text_any (.slice a K.length c) K _ w1 (HP.out.inn.smallR HP.out.nrm (by have := HP.out.sz; omega)) (by have := HP.out.inn.len HP.out.nrm (by omega); have := HP.out.sz; omega) (HP.out.rn.below HB1.out)).mono ?_; rintro e w2 ⟨rfl, hb2⟩; have hpb2 := (hb2.block b (lt_of_block HPB.out)).trans HPB.out; obtain ⟨_, _, _, _, q82⟩ := part_cells hpb2; have hmm2 := (HP.out.loc (HB1.out.trans (hb2.mono HB1.out.size)) hN (N := N) (B := N + 2) (by have := hb2.size; omega)).memo; have hbx2 := (hb2.block N (by omega)).trans H0.out; have hbr2 := (hb2.block (N + 1) (by omega)).trans H1.out)
    clear q8
    have hb02 : Below w.heap.size w w2 := HB1.out.trans (hb2.mono HB1.out.size)
    obtain ⟨nt, hnt⟩ : ∃ nt, w2.heap.size = nt := ⟨_, rfl⟩
    have hsz2 := hb2.size
    obtain ⟨es, ck, hmap, hent⟩ := hmm2 m p HM.out
    have hks : ∀ x ∈ es.toList, MapKept.IsKey .string x.key := fun x hx => by
      obtain ⟨K', v', L', e1, _⟩ := hent x hx
      rw [e1]; trivial
    have HB02 := Lib.hid hb02
    have HMM2 := Lib.hid hmm2
    have HPB2 := Lib.hid hpb2
    have HBR2 := Lib.hid hbr2
    have HBX2 := Lib.hid hbx2
    clear hb02 hmm2 hpb2 hbr2 hbx2 hb2
    rcases look_any (text := txt K) hmap hks with ⟨e, he, hek, hl⟩ | ⟨hno, hl⟩
    · obtain ⟨K', v', L', e1, e2, hKN, hKI, hr', hE'⟩ := hent e he
      have hKK : K' = K := txt_inj (hKI.smallR hKN (by have := HP.out.sz; omega)) (HP.out.inn.smallR HP.out.nrm (by have := HP.out.sz; omega)) (by rw [hek] at e1; exact (Value.string.inj e1).symm)
      subst hKK
      rw [e2] at hl
      obtain ⟨a9, c9, rfl⟩ := hr'.len
      have HR := Lib.hid hr'
      have HE := Lib.hid hE'
      clear hent hr' hE' he hek e1 e2 hKN hKI hks hmap
      obtain ⟨w3, hw3⟩ : ∃ w3, w3 = w2.alloc (.cells #[.slice a9 L'.length c9] 61) := ⟨_, rfl⟩
      have hb23 : Below w2.heap.size w2 w3 := by rw [hw3]; exact below_one w2 _
      have hbr3 := (hb23.block (N + 1) (by omega)).trans HBR2.out
      have hc3 := box_cell hbr3
      have hf3 := frozen_row (j := 0) hbr3
      have hb03 : Below w.heap.size w w3 := HB02.out.trans (hb23.mono HB02.out.size)
      have hF3 := fin_post (R := p.M s) (r0 := N + 1) (B := N + 2) (wr := w3) HP.out (Out.below hb03) hN rfl (HR.out.below hb23) HE.out (HP.out.loc hb03 hN (by have := hb23.size; omega)).memo (by omega) (by omega) HM1.out
      have HF3 := Lib.hid hF3
      clear hF3 hbr3 hb23 hb03
      rw [hw3] at hc3 hf3 HF3
      clear hw3
      rw [hl]
      simp only [Result.andThen_ok]
      clear hl
      go_wp2
      exact bodyPost_ret (v := .agg #[.slice a9 L'.length c9]) (by simp [results, Tryd.results45, go_sem, *]) rfl HF3.out
    · obtain ⟨w3, hw3⟩ : ∃ w3, w3 = w2.alloc (.cells #[.slice none 0 0] 61) := ⟨_, rfl⟩
      have hb23 : Below w2.heap.size w2 w3 := by rw [hw3]; exact below_one w2 _
      have hb03 : Below w.heap.size w w3 := HB02.out.trans (hb23.mono HB02.out.size)
      have hsz3 : w3.heap.size = nt + 1 := by rw [hw3]; simp [hnt]
      have hbt3 : w3.heap[nt]? = some (.cells #[.slice none 0 0] 61 (0, 0)) := by rw [hw3, ← hnt]; exact heap_alloc_new w2 _
      have hmt : mb nt = none := HP.out.new_none (by omega)
      have hp3 := HP.out.loc hb03 hN (N := N) (B := nt + 1) (by omega)
      have hc3 := box_cell ((hb23.block N (by omega)).trans HBX2.out)
      have hbr3 := (hb23.block (N + 1) (by omega)).trans HBR2.out
      have hpb3 := (hb23.block b (lt_of_block HPB2.out)).trans HPB2.out
      have HC := Lib.hid (HF.out _ w3 _ hp3 (TreeP.out (Out.below hb03) p HT.out))
      have HB03 := Lib.hid hb03
      have HBT3 := Lib.hid hbt3
      have HMT := Lib.hid hmt
      have HP3 := Lib.hid hp3
      have HBR3 := Lib.hid hbr3
      have HPB3 := Lib.hid hpb3
      have HW3 := Lib.hid hw3
      rw [hw3] at hc3
      clear hb23 hb03 hbt3 hmt hp3 hbr3 hpb3 hno hent hks hmap hw3
      rw [hl]
      simp only [Result.andThen_ok]
      clear hl
      go_wp2_with (go_at_call 49; rw [← HW3.out]; refine HC.out.mono ?_; rintro e w4 ⟨a6, n6, c6, L6, rfl, hr6, he6, ho6, hm6⟩; have hbt4 := (ho6.block nt (by omega) (fun h => h HMT.out)).trans HBT3.out; have hct4 := box_cell hbt4; have hft4 := frozen_row (j := 0) hbt4)
      have hbt5 := box_set hbt4 (.slice a6 n6 c6)
      have hst5 : Out (fun k => k = nt) w4 (w4.setCell ⟨nt, 0, none⟩ (.slice a6 n6 c6)) := Out.set (X := fun k => k = nt) w4 0 _ rfl
      have hX1t : Loc X N (nt + 1) nt := .inr ⟨by omega, by omega⟩
      have hr5 := hr6.out hst5 (fun k _ e => by have e : k = nt := e; rw [e]; exact hX1t)
      have hm5 := hm6.out hst5 (fun k _ e => by have e : k = nt := e; rw [e]; exact ⟨hX1t, HMT.out⟩)
      have ho5 : Out (Xm mb) w (w4.setCell ⟨nt, 0, none⟩ (.slice a6 n6 c6)) := ((Out.below HB03.out).comp ho6 (fun _ _ h => h)).comp hst5 (fun i hi e => by have e : i = nt := e; omega)
      have hpb5 := (hst5.block b (lt_of_block ((ho6.block b (lt_of_block HPB3.out) (fun h => h HMB.out)).trans HPB3.out)) (fun e => by have e : b = nt := e; have := lt_of_block HPB2.out; omega)).trans ((ho6.block b (lt_of_block HPB3.out) (fun h => h HMB.out)).trans HPB3.out)
      have hbr4 := (ho6.block (N + 1) (by omega) (fun h => h HM1.out)).trans HBR3.out
      have hbr5 := (hst5.block (N + 1) (lt_of_block hbr4) (fun e => by have e : N + 1 = nt := e; omega)).trans hbr4
      obtain ⟨_, _, _, _, q85⟩ := part_cells hpb5
      have q85d : (w4.setCell ⟨nt, 0, none⟩ (.slice a6 n6 c6)).drew.cell? ⟨b, 8, none⟩ = some (.map (some m)) := q85
      have hcu5 := box_cell hbt5
      have hcu5d : (w4.setCell ⟨nt, 0, none⟩ (.slice a6 n6 c6)).drew.cell? ⟨nt, 0, none⟩ = some (.slice a6 n6 c6) := hcu5
      obtain ⟨es5, ck5, hmap5, hent5⟩ := hm5 m p HM.out
      obtain ⟨es', ck', hput, hent'⟩ := put_any (w := (w4.setCell ⟨nt, 0, none⟩ (.slice a6 n6 c6)).drew) (m := m) (text := txt K) (.agg #[.slice a6 n6 c6]) hmap5 (fun x hx => by
        obtain ⟨K', v', L', e1, _⟩ := hent5 x hx
        rw [e1]; trivial)
      obtain ⟨_, hso⟩ := setMap_at (w := (w4.setCell ⟨nt, 0, none⟩ (.slice a6 n6 c6)).drew) (es' := es') (c' := ck') hmap5
      have hXm : Xm mb m := by unfold Xm; rw [HM.out]; simp
      have hmnt : m ≠ nt := fun e => by subst e; rw [hbt5] at hmap5; cases hmap5
      have hmn1 : m ≠ N + 1 := fun e => by subst e; rw [hbr5] at hmap5; cases hmap5
      have hm6' := Memos.put (w := (w4.setCell ⟨nt, 0, none⟩ (.slice a6 n6 c6)).drew) (es' := es') (c' := ck') hm5 HM.out (.inl (HP.out.xm m hXm)) hmap5 hent' HP.out.nrm HP.out.inn hr5 he6
      have hcu6 := box_cell ((hso.block nt (lt_of_block hbt5) (fun e => hmnt e.symm)).trans hbt5)
      have hbr6 := (hso.block (N + 1) (lt_of_block hbr5) (fun e => hmn1 e.symm)).trans hbr5
      have hcr6 := box_cell hbr6
      have hfr6 := frozen_row (j := 0) hbr6
      have hr6' := hr5.drew.out hso (fun k _ e => by have e : k = m := e; rw [e]; exact .inl (HP.out.xm m hXm))
      have hF3 := fin_post (R := p.M s) (r0 := N + 1) (B := nt + 1) HP.out (ho5.drew.comp hso (fun i _ e => by have e : i = m := e; rw [e]; exact hXm)) hN rfl hr6' he6 hm6' (by omega) (by omega) HM1.out
      have HF3 := Lib.hid hF3
      clear hF3 hr6' hm6' hso hmap5 hent5 hent' hm5 hr5 ho5 hbr4 hbr5 hpb5 hst5 hbt5 hbt4 hct4 hft4 hr6 he6 ho6 hm6 hbr6 hmnt hmn1 hXm hX1t
      generalize (w4.setCell ⟨nt, 0, none⟩ (.slice a6 n6 c6)) = w5 at *
      go_wp2
      go_still_tail 6, (by kernel_rfl)
      go_wp2
      exact bodyPost_ret (v := .agg #[.slice a6 n6 c6]) (by simp [results, Tryd.results45, go_sem, *]) rfl HF3.out
  · rw [if_neg hkeep] at hkn
    subst hkn
    have hnn : ∀ w : World, (binOp .eql 67 (.map none) (.map none)).run Tryd.prog w = .ok (.bool true) w := fun w => by kernel_rfl
    have hp1 := HP.out.loc HB1.out hN (N := N) (B := N + 2) (by omega)
    have HC := Lib.hid (HF.out _ w1 _ hp1 (TreeP.out (Out.below HB1.out) p HT.out))
    clear hp1 hw1 hkeep
    go_enter Tryd.func45, Tryd.ntmps45
    go_wp2_with (go_at_call 49; rw [← HW1.out]; refine HC.out.mono ?_; rintro e w4 ⟨a6, n6, c6, L6, rfl, hr6, he6, ho6, hm6⟩; have hbr4 := (ho6.block (N + 1) (by omega) (fun h => h HM1.out)).trans H1.out; have hct4 := box_cell hbr4; have hft4 := frozen_row (j := 0) hbr4)
    have hF3 := fin_post (R := p.M s) (r0 := N + 1) (B := N + 2) HP.out ((Out.below HB1.out).comp ho6 (fun _ _ h => h)) hN rfl hr6 he6 hm6 (by omega) (by omega) HM1.out
    have HF3 := Lib.hid hF3
    clear hF3
    exact bodyPost_ret (v := .agg #[.slice a6 n6 c6]) (by simp [results, Tryd.results45, go_sem, *]) rfl HF3.out
end Go.Proofs.YtooaamepflkgnaaDoor
set_option maxRecDepth 100000
namespace Go.Proofs.YtooaamepflkgnaaDoor
open Go.RowKit

theorem one_place {K : List (Int × Int)} {i : Int} (h : K = [(i, i)]) : lastR K = i ∧ K ≠ [] ∧ (∀ x, mem K x ↔ x = i) ∧ K.length = 1 := by
  subst h
  refine ⟨rfl, by simp, fun x => ?_, rfl⟩
  simp [mem]; omega
set_option maxHeartbeats 1000000 in
theorem upToEnd_any (s : ByteArray) (i : Int) (v rv : Value) (X : Nat → Prop) (w : World) (hs : s.size ≤ 90) (hi : 0 ≤ i ∧ i ≤ s.size) (hr : Rn w X v [(i, i)]) :
    Calls Tryd.prog 63 #[mV rv s, .agg #[v]] w fun e w' => ∃ a n c, e = .returned (.agg #[.slice a n c]) ∧ Rn w' (fun k => k < w.heap.size) (.slice a n c) [(i, s.size)] ∧ Below w.heap.size w w' := by
  obtain ⟨a, c, rfl⟩ := hr.len
  obtain ⟨N, hN⟩ : ∃ N, w.heap.size = N := ⟨_, rfl⟩
  obtain ⟨hb1, hsz1, h0, h1, h2⟩ := three_boxes w #[rv, .string s] #[.slice a 1 c] #[.slice none 0 0] 53 61 61 N hN
  obtain ⟨w1, hw1⟩ : ∃ w1, w1 = ((w.alloc (.cells #[rv, .string s] 53)).alloc (.cells #[.slice a 1 c] 61)).alloc (.cells #[.slice none 0 0] 61) := ⟨_, rfl⟩
  rw [← hw1] at hb1 hsz1 h0 h1 h2
  have hr1 : Rn w1 X (.slice a 1 c) [(i, i)] := hr.below (by rw [hN]; exact hb1)
  have hL := last_any [(i, i)] (.slice a 1 c) X w1 (by simp) hr1
  rw [if_neg (by simp)] at hL
  have e1 : lastR [(i, i)] = i := rfl
  have e2 : decide ([(i, i)] ≠ ([] : List (Int × Int))) = true := by simp
  rw [e1, e2] at hL
  have HL := Lib.hid hL
  have H0 := Lib.hid h0
  have H2 := Lib.hid h2
  have HW := Lib.hid hw1
  have HB1 := Lib.hid hb1
  have hss : (s.size : Int) ≤ 90 := by omega
  clear hL h0 h1 h2 hr hr1 e1 e2 hw1 hb1
  simp only [List.length_cons, List.length_nil, Nat.zero_add] at *
  go_enter Tryd.func63, Tryd.ntmps63
  go_wp2_with (first | (go_at_call 33; rw [← HW.out]; refine HL.out.mono ?_; rintro e w2 ⟨rfl, hb2⟩; obtain ⟨c0, c1⟩ := pair_cells ((hb2.block N (by omega)).trans H0.out); have hr2 := (hb2.block (N + 1 + 1) (by omega)).trans H2.out) | (go_at_call 37; refine (span_any i s.size _ (by omega) (by omega)).mono ?_; rintro e w3 ⟨a3, n3, c3, rfl, hr3, hb3⟩; have hr4 := (hb3.block (N + 1 + 1) (lt_of_block hr2)).trans hr2; have hc4 := box_cell hr4; have hf4 := frozen_row (j := 0) hr4))
  rw [add_nil (by omega)] at hr3
  have hlt2 := lt_of_block hr2
  have hst := Out.set (X := fun k => k = N + 1 + 1) w3 0 (.slice a3 n3 c3) rfl
  have hs2 := hb2.size
  have hF : Rn (w3.setCell ⟨N + 1 + 1, 0, none⟩ (.slice a3 n3 c3)) (fun k => k < N) (.slice a3 n3 c3) [(i, (s.size : Int))] :=
    (hr3.out hst (fun k _ e => by have e : k = N + 1 + 1 := e; show k < w2.heap.size; omega)).weak fun k _ hk => by have hk : k < N := hk; show k < w2.heap.size; omega
  have hB : Below N w (w3.setCell ⟨N + 1 + 1, 0, none⟩ (.slice a3 n3 c3)) := (HB1.out.trans ((hb2.mono (by omega)).trans (hb3.mono (by omega)))).setCell (p := ⟨N + 1 + 1, 0, none⟩) (by show N ≤ N + 1 + 1; omega) _
  have HFF := Lib.hid hF
  clear hF hst hr3
  exact bodyPost_ret (v := .agg #[.slice a3 n3 c3]) (by simp [results, Tryd.results63, go_sem, *]) rfl ⟨_, _, _, rfl, by rw [hN]; exact HFF.out, by rw [hN]; exact hB⟩
/-- What stays while a function of matching runs; its result lies in r0. -/
def FrameM (s : ByteArray) (mb : Nat → Option Pat) (X : Nat → Prop) (r0 : Nat) (w1 W : World) : Prop := Out (fun k => Xm mb k ∨ k = r0) w1 W ∧ Memos s mb X W
theorem FrameM.out {s : ByteArray} {mb : Nat → Option Pat} {X : Nat → Prop} {r0 : Nat} {w1 W : World} (h : FrameM s mb X r0 w1 W) : Out (fun k => Xm mb k ∨ k = r0) w1 W := h.1
theorem FrameM.memo {s : ByteArray} {mb : Nat → Option Pat} {X : Nat → Prop} {r0 : Nat} {w1 W : World} (h : FrameM s mb X r0 w1 W) : Memos s mb X W := h.2
theorem FrameM.next {s : ByteArray} {mb : Nat → Option Pat} {X : Nat → Prop} {r0 : Nat} {w1 W W' : World} (h : FrameM s mb X r0 w1 W) (ho : Out (Xm mb) W W') (hm : Memos s mb X W') : FrameM s mb X r0 w1 W' := ⟨h.1.comp ho (fun _ _ h => .inl h), hm⟩
theorem FrameM.below {s : ByteArray} {mb : Nat → Option Pat} {X : Nat → Prop} {r0 : Nat} {w1 W W' : World} (h : FrameM s mb X r0 w1 W) (hb : Below W.heap.size W W') : FrameM s mb X r0 w1 W' := ⟨h.1.trans (Out.below hb), h.2.below hb⟩
theorem FrameM.set {s : ByteArray} {mb : Nat → Option Pat} {X : Nat → Prop} {r0 : Nat} {w1 W : World} (h : FrameM s mb X r0 w1 W) (hX : X r0) (hm : mb r0 = none) (u : Value) : FrameM s mb X r0 w1 (W.setCell ⟨r0, 0, none⟩ u) :=
  ⟨h.1.comp (Out.set (X := fun k => k = r0) W 0 u rfl) (fun _ _ h => .inr h), h.2.out (Out.set (X := fun k => k = r0) W 0 u rfl) (fun k _ e => by have e : k = r0 := e; rw [e]; exact ⟨hX, hm⟩)⟩
theorem FrameM.start {s : ByteArray} {mb : Nat → Option Pat} {X : Nat → Prop} {r0 : Nat} {w1 : World} (h : Memos s mb X w1) : FrameM s mb X r0 w1 w1.drew := ⟨(Out.refl _ _).drew, h⟩
theorem FrameM.from {s : ByteArray} {mb : Nat → Option Pat} {X : Nat → Prop} {r0 : Nat} {w1 W : World} {w : World} (h : FrameM s mb X r0 w1 W) (hb : Below w.heap.size w w1) (hr : w.heap.size ≤ r0) : Out (Xm mb) w W := frame_out hb h.1 (fun k e => by have e : k = r0 := e; omega)
theorem FrameM.pre {s : ByteArray} {mb : Nat → Option Pat} {X : Nat → Prop} {r0 : Nat} {w1 W : World} {v : Value} {K : List (Int × Int)} (h : FrameM s mb X r0 w1 W) (hp : Pre s mb X v K w1) (hX : X r0) : Pre s mb X v K W :=
  ⟨hp.sz, hp.xm, fun k hk => by have := hp.lt k hk; have := h.1.size; omega, hp.rn.out h.1 (fun k _ e => by rcases e with e | e; exact hp.xm k e; rw [e]; exact hX), hp.nrm, hp.inn, h.2⟩
theorem s4_out {s : ByteArray} {mb : Nat → Option Pat} {X : Nat → Prop} {r0 : Nat} {w1 W W' : World} {N b : Nat} {x0 x1 x2 x3 : Value} (h : W.cell? ⟨N, 0, none⟩ = some x0 ∧ W.cell? ⟨N, 1, none⟩ = some x1 ∧ W.cell? ⟨N + 1, 0, none⟩ = some x2 ∧ W.cell? ⟨b, 7, none⟩ = some x3 ∧ FrameM s mb X r0 w1 W)
    (ho : Out (Xm mb) W W') (hm : Memos s mb X W') (h0 : mb N = none) (h1 : mb (N + 1) = none) (hb : mb b = none) : W'.cell? ⟨N, 0, none⟩ = some x0 ∧ W'.cell? ⟨N, 1, none⟩ = some x1 ∧ W'.cell? ⟨N + 1, 0, none⟩ = some x2 ∧ W'.cell? ⟨b, 7, none⟩ = some x3 ∧ FrameM s mb X r0 w1 W' :=
  ⟨ho.cell h.1 (fun e => e h0), ho.cell h.2.1 (fun e => e h0), ho.cell h.2.2.1 (fun e => e h1), ho.cell h.2.2.2.1 (fun e => e hb), h.2.2.2.2.next ho hm⟩
theorem s4_below {s : ByteArray} {mb : Nat → Option Pat} {X : Nat → Prop} {r0 : Nat} {w1 W W' : World} {N b : Nat} {x0 x1 x2 x3 : Value} (h : W.cell? ⟨N, 0, none⟩ = some x0 ∧ W.cell? ⟨N, 1, none⟩ = some x1 ∧ W.cell? ⟨N + 1, 0, none⟩ = some x2 ∧ W.cell? ⟨b, 7, none⟩ = some x3 ∧ FrameM s mb X r0 w1 W)
    (hb : Below W.heap.size W W') : W'.cell? ⟨N, 0, none⟩ = some x0 ∧ W'.cell? ⟨N, 1, none⟩ = some x1 ∧ W'.cell? ⟨N + 1, 0, none⟩ = some x2 ∧ W'.cell? ⟨b, 7, none⟩ = some x3 ∧ FrameM s mb X r0 w1 W' :=
  ⟨cell_below hb h.1, cell_below hb h.2.1, cell_below hb h.2.2.1, cell_below hb h.2.2.2.1, h.2.2.2.2.below hb⟩
theorem s4_set {s : ByteArray} {mb : Nat → Option Pat} {X : Nat → Prop} {r0 : Nat} {w1 W W' : World} {N b : Nat} {x0 x1 x2 x3 : Value} {u : Value} (h : W.cell? ⟨N, 0, none⟩ = some x0 ∧ W.cell? ⟨N, 1, none⟩ = some x1 ∧ W.cell? ⟨N + 1, 0, none⟩ = some x2 ∧ W.cell? ⟨b, 7, none⟩ = some x3 ∧ FrameM s mb X r0 w1 W) (hX : X r0) (hm : mb r0 = none) (h0 : N ≠ r0) (h1 : N + 1 ≠ r0) (hb : b ≠ r0) (e : W' = W.setCell ⟨r0, 0, none⟩ u) : W'.cell? ⟨N, 0, none⟩ = some x0 ∧ W'.cell? ⟨N, 1, none⟩ = some x1 ∧ W'.cell? ⟨N + 1, 0, none⟩ = some x2 ∧ W'.cell? ⟨b, 7, none⟩ = some x3 ∧ FrameM s mb X r0 w1 W' := by
  subst e
  have ho : Out (fun k => k = r0) W (W.setCell ⟨r0, 0, none⟩ u) := Out.set (X := fun k => k = r0) W 0 u rfl
  exact ⟨ho.cell h.1 h0, ho.cell h.2.1 h0, ho.cell h.2.2.1 h1, ho.cell h.2.2.2.1 hb, h.2.2.2.2.set hX hm u⟩
theorem s4_frame {s : ByteArray} {mb : Nat → Option Pat} {X : Nat → Prop} {r0 : Nat} {w1 W : World} {N b : Nat} {x0 x1 x2 x3 : Value} (h : W.cell? ⟨N, 0, none⟩ = some x0 ∧ W.cell? ⟨N, 1, none⟩ = some x1 ∧ W.cell? ⟨N + 1, 0, none⟩ = some x2 ∧ W.cell? ⟨b, 7, none⟩ = some x3 ∧ FrameM s mb X r0 w1 W) : FrameM s mb X r0 w1 W := h.2.2.2.2
end Go.Proofs.YtooaamepflkgnaaDoor
