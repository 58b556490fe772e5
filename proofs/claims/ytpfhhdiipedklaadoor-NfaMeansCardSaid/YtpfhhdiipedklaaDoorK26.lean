/- Texts that a proof rests on: A row of bytes as a string. | The contract of a trip's step. | Where a text leads. | The contract of nfa.Whole. | Contract of homographref02.Plain. -/
import Derived.Test.YtpfhhdiipedklaaDoorK25
import Derived.Laws.BytesString
import Derived.Laws.Cells
import Derived.Test.YtpfhhdiipedklaaDoorK12
import Derived.Test.YtpfhhdiipedklaaDoorK28
set_option maxRecDepth 100000
namespace Go.Proofs.YtpfhhdiipedklaaDoor
open Go.RowKit

theorem foldl_push_bytes (xs : List Nat) : ∀ r : ByteArray, ((xs.map fun x : Nat => (x : Int)).foldl (fun (r : ByteArray) (n : Int) => r.push (UInt8.ofNat n.toNat)) r) = ⟨r.data ++ (xs.map fun x => UInt8.ofNat x).toArray⟩ := by
  induction xs with
  | nil => intro r; simp
  | cons x xs ih =>
    intro r
    simp only [List.map_cons, List.foldl_cons, Int.toNat_natCast]
    rw [ih]
    congr 1
    simp [ByteArray.push]
/-- In whatever world the key's row lies. -/
theorem conv_key {w : World} {B b : Nat} {L : List Nat} {a : Option Addr} {cp n : Nat} (hn : (b :: encL L).length = n) (h : w.ownsRow B 5 1 (.slice a n cp) n (u8s (b :: encL L))) :
    (convert 67 9 (.slice a n cp)).run Tryd.prog w = .ok (.string (keyOfStep b L)) w := by
  rw [run_convert_bytes_string w _ _ _ _ n cp Tryd.underlying67 Tryd.underlying5 Tryd.underlying9]
  obtain ⟨g, c, e, hc⟩ := row_cell h (by rw [← hn]; simp)
  cases e
  have hl := run_loadCells_list (P := Tryd.prog) (w := w) ⟨g, 0, none⟩ (u8s (b :: encL L)) (fun j v hv => by
    have := hc j v hv
    rw [show (⟨g, 0, none⟩ : Addr).add j = ⟨g, j, none⟩ by simp [Addr.add]; intro e; subst e; rfl]; exact this)
  have hlen : (u8s (b :: encL L)).length = n := by unfold u8s; rw [List.length_map]; exact hn
  rw [hlen] at hl
  have hu : u8s (b :: encL L) = ((b :: encL L).map fun x : Nat => (x : Int)).map (Value.int .u8) := by unfold u8s; rw [List.map_map]; rfl
  rw [hu] at hl
  rw [run_bytesToString w ⟨g, 0, none⟩ n cp _ hl, foldl_push_bytes]
  simp [keyOfStep, ByteArray.empty, ByteArray.emptyWithCapacity]
  rfl
end Go.Proofs.YtpfhhdiipedklaaDoor
set_option maxRecDepth 100000
namespace Go.Proofs.YtpfhhdiipedklaaDoor
open Go.RowKit

theorem TX.next {w0 w w' : World} {t bm b1 b2 cnt kept : Nat} {E : List (Nat × Nat)} {A : List (Nat × Nat × BitVec 256)} {kv : Value} {xs : List Nat} (h : TX w0 w t bm b1 b2 cnt kept E A kv xs) (hb : Below w.heap.size w w') : TX w0 w' t bm b1 b2 cnt kept E A kv xs :=
  ⟨h.below.trans (hb.mono h.below.size), h.far, h.wk, (hb.block _ (lt_of_block h.obj)).trans h.obj, row_keep h.row fun _ _ _ h3 => (hb.block _ (lt_of_block h3)).trans h3, h.known.keep (fun _ _ h3 => (hb.block _ (lt_of_block h3)).trans h3) fun _ _ h3 => (hb.block _ (lt_of_block h3)).trans h3⟩
theorem int_form {w : World} {B : Nat} {v : Value} {l : List Nat} (h : w.ownsRow B 3 1 v l.length (l.map fun x : Nat => Value.int .i64 (x : Int))) : ∃ a cp, v = .slice a l.length cp := by
  rcases h.2 with ⟨rfl, h2⟩ | ⟨g, cap, cur, rfl, _⟩
  · exact ⟨none, 0, by rw [h2]⟩
  · exact ⟨_, _, rfl⟩
theorem own_weak {w : World} {B B' n sz : Nat} {e : TypeId} {v : Value} {l : List Value} (h : w.ownsRow B e sz v n l) (hB : B' ≤ B) : w.ownsRow B' e sz v n l := by
  obtain ⟨h1, h2⟩ := h
  refine ⟨h1, h2.imp_right ?_⟩
  rintro ⟨g, cap, cur, e1, e2, e3⟩
  exact ⟨g, cap, cur, e1, Nat.le_trans hB e2, e3⟩
theorem rise_len {l : List Nat} {cnt : Nat} {E : List (Nat × Nat)} {T : List Int} (h : l.Pairwise (· < ·) ∧ ∀ s, s ∈ l ↔ Reach cnt E T s) : l.length ≤ cnt :=
  nodup_nat_le cnt l (h.1.imp fun h => Nat.ne_of_lt h) fun s hs => ((h.2 s).1 hs).lt
theorem ofNat_back (xs : List Nat) (h : ∀ x ∈ xs, x < 256) : (xs.map fun x => UInt8.ofNat x).map UInt8.toNat = xs := by
  rw [List.map_map]
  conv => rhs; rw [← List.map_id xs]
  refine List.map_congr_left fun x hx => ?_
  have := h x hx
  simp only [Function.comp, id]
  simp [Nat.mod_eq_of_lt this]
theorem encL_byte (L : List Nat) : ∀ x ∈ encL L, x < 256 := fun x hx => by
  obtain ⟨n, _, h⟩ := List.mem_flatMap.1 hx
  exact encN_byte n n (Nat.le_refl _) x h
theorem key_inj {b b' : Nat} {L L' : List Nat} (hb : b < 256) (hb' : b' < 256) (h : keyOfStep b L = keyOfStep b' L') : b = b' ∧ L = L' := by
  have h1 := congrArg (fun z : ByteArray => z.data.toList.map UInt8.toNat) h
  simp only [keyOfStep] at h1
  rw [ofNat_back _ (fun x hx => by rcases List.mem_cons.1 hx with rfl | hx; exact hb; exact encL_byte _ _ hx), ofNat_back _ (fun x hx => by rcases List.mem_cons.1 hx with rfl | hx; exact hb'; exact encL_byte _ _ hx)] at h1
  simp only [List.cons.injEq] at h1
  exact ⟨h1.1, encL_inj _ _ h1.2⟩
theorem key_size (b : Nat) (L : List Nat) : (keyOfStep b L).size = (encL L).length + 1 := by
  show (keyOfStep b L).data.size = _
  simp [keyOfStep]
theorem look_sx {bm c : Nat} {es : Array MapEntry} (h : KeyS es) {k : ByteArray} {x : MapEntry} (hx : x ∈ es.toList) (hk : x.key = .string k) (W : World) (hW : W.heap[bm]? = some (.map es c)) :
    (Instr.lookup 85 (.map (some bm)) (.string k) true).run Tryd.prog W = .ok (.tuple #[x.val, .bool true]) W := by
  rcases look_s hW h k with ⟨y, hy, h1, h2⟩ | ⟨h1, _⟩
  · obtain rfl := nodup_same h.once hx hy (hk.trans h1.symm)
    exact h2
  · exact absurd hk (h1 x hx)
theorem look_sn {bm c : Nat} {es : Array MapEntry} (h : KeyS es) {k : ByteArray} (hn : ∀ x ∈ es.toList, x.key ≠ .string k) (W : World) (hW : W.heap[bm]? = some (.map es c)) :
    (Instr.lookup 85 (.map (some bm)) (.string k) true).run Tryd.prog W = .ok (.tuple #[.slice none 0 0, .bool false]) W := by
  rcases look_s hW h k with ⟨y, hy, h1, _⟩ | ⟨_, h2⟩
  · exact absurd h1 (hn y hy)
  · exact h2
set_option linter.unusedSimpArgs false in
set_option maxHeartbeats 4000000 in
theorem tstep_any (w0 : World) (t bm b1 b2 cnt kept : Nat) (E : List (Nat × Nat)) (A : List (Nat × Nat × BitVec 256)) (b : Nat) (L : List Nat) (v : Value) (w : World) (h : TI w0 w t bm b1 b2 cnt kept E A) (hb : b < 256) (hv : w.ownsRow w0.heap.size 3 1 v L.length (L.map fun x : Nat => Value.int .i64 (x : Int)))
    (hcnt : cnt ≤ 100000) (hEl : E.length < 100000) (hAl : A.length ≤ 20000) (hL : L.length ≤ 4999) (hLc : ∀ x ∈ L, x < 1000000) (hk : kept + (1 + 3 * L.length + cnt) ≤ 1048576) (hT : Tab w0) :
    Calls Tryd.prog 35 #[ptr t, v, .int .u8 b] w fun e w' => ∃ (v' : Value) (l : List Nat) (kept' : Nat), e = .returned v' ∧ kept' ≤ kept + (1 + 3 * L.length + cnt) ∧ Hid (TI w0 w' t bm b1 b2 cnt kept' E A) ∧ Hid (w'.ownsRow w0.heap.size 3 1 v' l.length (l.map fun x : Nat => Value.int .i64 (x : Int))) ∧ Hid (l.Pairwise (· < ·) ∧ ∀ s, s ∈ l ↔ Reach cnt E (stepT A b (L.map fun x : Nat => (x : Int))) s) := by
  obtain ⟨a, cp, rfl⟩ : ∃ a cp, v = .slice a L.length cp := by
    rcases hv.2 with ⟨rfl, h2⟩ | ⟨g, cap, cur, rfl, _⟩
    · exact ⟨none, 0, by rw [h2]⟩
    · exact ⟨_, _, rfl⟩
  obtain ⟨i0, hi0, hz0, hz1, hz2⟩ := info_parts infoU
  have HI := Lib.hid (And.intro hi0 (And.intro hz0 (And.intro hz1 hz2)))
  obtain ⟨kv, xs, hx⟩ := h.key
  obtain ⟨ka, kc, rfl, hcut, hnil⟩ := key_none hx.row
  have c5 : w.cell? ⟨t, 5, none⟩ = some (.slice ka xs.length kc) := (cell_of_row w t 5 _ _ _ hx.obj).trans rfl
  have HX := Lib.hid hx
  have HV := Lib.hid hv
  have HT := Lib.hid hT
  have HRA := Lib.hid (row_keep (w' := w.alloc (.cells #[.int .u8 b] 5)) hcut fun g cs _ h1 => (heap_alloc_old w _ (lt_of_block h1)).trans h1)
  have hsz := hx.below.size
  have hkc : xs.length ≤ kc := by
    rcases hx.row.2 with ⟨e, h2⟩ | ⟨g, cap, cur, e, _, _, h4, _⟩
    · omega
    · cases e; exact h4
  obtain ⟨B, hB⟩ : ∃ B, w0.heap.size = B := ⟨_, rfl⟩
  rw [hB] at HRA hsz
  have HB := Lib.hid hB
  clear hi0 hz0 hz1 hz2 h hx hcut hv hT
  go_enter Tryd.func35, Tryd.ntmps35
  go_wp2_with (at_builtin; refine wpList_append_lies _ rfl _ _ 67 rfl B 5 i0 (.int .u8 0) 1 1 Tryd.underlying67 HI.out.1 HI.out.2.1 HI.out.2.2.1 HI.out.2.2.2 rfl (by decide) (.slice ka 0 kc) 0 [] rfl HRA.out ⟨w.heap.size, 0, none⟩ 1 1 [.int .u8 b] rfl rfl (news_in (cs := #[.int .u8 b]) (heap_alloc_new w _)) (by simp [Value.oneCell']) (by omega) (by unfold maxLen; omega) (by omega) (by simp; omega) (w.heap.size + 1) (by simp) ?_; intro g cap2 w8 h2 h3 h4 h5; obtain ⟨c8, f8, hst, hint⟩ := HX.out.set (ys := [b]) (new_one w _) (show (Value.slice ka 0 kc).ownBlock = (Value.slice ka xs.length kc).ownBlock by cases ka <;> rfl) h3 (by rw [HB.out]; exact h2); have HST := Lib.hid hst; have HIN := Lib.hid hint; clear h2 h3 h4 h5 hst hint)
  clear c8 f8 HRA
  go_loopw [25] (fun x wr => ∃ (k : Nat) (kv : Value), x = .int .i64 k ∧ k ≤ L.length ∧ Hid (TX w0 wr t bm b1 b2 cnt kept E A kv (b :: encL (L.take k))) ∧ Hid (∀ (g : Nat) (cs : Array Value), w.heap[g]? = some (.cells cs 3 (0, 0)) → wr.heap[g]? = some (.cells cs 3 (0, 0)))) (fun x _ => L.length - (intOf x).toNat)
  case atStart => exact ⟨0, _, rfl, Nat.zero_le _, HST, HIN⟩
  case round =>
    clear HST HIN
    obtain ⟨k, kv, rfl, hkl, HTX, HIN⟩ := hrel
    obtain ⟨ka2, kc2, hkv, _, _⟩ := key_none HTX.out.row
    generalize hkn : (b :: encL (L.take k)).length = kn at *
    subst hkv
    have c5 : wr.cell? ⟨t, 5, none⟩ = some (.slice ka2 kn kc2) := (cell_of_row wr t 5 _ _ _ HTX.out.obj).trans rfl
    have hel := encL_len (L.take k) (fun x hx => Nat.lt_trans (hLc x (List.mem_of_mem_take hx)) (by decide))
    rw [List.length_take] at hel
    by_cases hlt : k < L.length
    · have hdd : decide ((k : Int) < L.length) = true := by simpa using hlt
      have hv2 := row_keep (w' := wr) HV.out fun g cs _ h1 => HIN.out g cs h1
      obtain ⟨bb, c2, e, hc⟩ := row_cell hv2 (by omega)
      cases e
      have hc2 := hc k (.int .i64 L[k]) (by rw [List.getElem?_map, List.getElem?_eq_getElem hlt]; rfl)
      have HTK := Lib.hid (encL_take hlt)
      have hlk := hLc _ (List.getElem_mem hlt)
      clear hv2 hc
      generalize L[k] = x at *
      have HAN := Lib.hid (appendNumber_any w0.heap.size (.slice ka2 kn kc2) (b :: encL (L.take k)) x wr hlk (by simp only [List.length_cons]; omega) HTX.out.below.size HTX.out.row)
      go_wp2_with (go_at_call 59; refine HAN.out.mono ?_; rintro e w8 ⟨v', rfl, hr8, hg8, _⟩; obtain ⟨a8, cp8, rfl, _, _⟩ := key_none hr8.out; obtain ⟨c8, f8, hst, hint⟩ := HTX.out.set (Below.refl _ wr) rfl hg8.out hr8.out; generalize (b :: encL (L.take k) ++ encN x).length = n8 at hst hint ⊢; have HST := Lib.hid hst; have HIN2 := Lib.hid hint; clear hst hint hr8 hg8)
      refine ⟨⟨k + 1, .slice a8 n8 cp8, rfl, hlt, Lib.hid ?_, Lib.hid fun g cs h => HIN2.out g cs (HIN.out g cs h)⟩, by simp only [intOf]; omega⟩
      rw [HTK.out]; exact HST.out
    · have hdd : decide ((k : Int) < L.length) = false := by simpa using hlt
      obtain rfl : k = L.length := by omega
      rw [List.take_length] at HTX hkn hel
      obtain ⟨es, c, hes, hks, hen⟩ := HTX.out.known.map
      have d3 : wr.drew.cell? ⟨t, 3, none⟩ = some (.map (some bm)) := (cell_of_row wr t 3 _ _ _ HTX.out.obj).trans rfl
      have d5 : wr.drew.cell? ⟨t, 5, none⟩ = some (.slice ka2 kn kc2) := c5
      have dm : wr.drew.heap[bm]? = some (.map es c) := hes
      have dr : wr.drew.ownsRow w0.heap.size 5 1 (.slice ka2 kn kc2) kn (u8s (b :: encL L)) := by
        have := HTX.out.row
        rw [hkn] at this
        exact this
      have HCV := Lib.hid (fun (W : World) (hW : W.ownsRow w0.heap.size 5 1 (.slice ka2 kn kc2) kn (u8s (b :: encL L))) => conv_key hkn hW)
      have mixed : Tryd.prog.follows .mixedOrders = true := by kernel_rfl
      have HEN := Lib.hid hen
      have HKS := Lib.hid hks
      by_cases hfind : ∃ x ∈ es.toList, x.key = .string (keyOfStep b L)
      · obtain ⟨x, hx, hxk⟩ := hfind
        have HLK := Lib.hid (fun (W : World) (hW : W.heap[bm]? = some (.map es c)) => look_sx hks hx hxk W hW)
        have HXX := Lib.hid (And.intro hx hxk)
        obtain ⟨xv, hxv⟩ : ∃ xv, x.val = xv := ⟨_, rfl⟩
        rw [hxv] at HLK
        clear hes hks hen hx hxk c5
        go_upto_region 7 with fail
        refine region_goes 14 15 rfl (fun W => W.cell? ⟨t, 3, none⟩ = some (.map (some bm)) ∧ W.cell? ⟨t, 5, none⟩ = some (.slice ka2 kn kc2) ∧ W.heap[bm]? = some (.map es c) ∧ W.ownsRow w0.heap.size 5 1 (.slice ka2 kn kc2) kn (u8s (b :: encL L))) mixed ⟨d3, d5, dm, dr⟩ (fun hHeld => ?_)
        clear d3 d5 dm dr
        refine goes_take (i := 0) (v := ?gv1) rfl (by kernel_rfl) (by kernel_rfl) (by kernel_rfl) (by kernel_rfl) (fun _ _ _ h => h) (Or.inl ⟨by rfl, ?gy1⟩) (by assumption) ?gr1
        case gy1 => (intro W9 hW9; obtain ⟨k0, k1, km, kr⟩ := hW9; first | (go_simp; done) | (go_simp; with_reducible rfl))
        simp only [Act.put, List.getElem_toArray, List.getElem_cons_succ, List.getElem_cons_zero, List.setIfInBounds_toArray, List.set_cons_zero, List.set_cons_succ]
        refine goes_take (i := 1) (v := ?gv2) rfl (by kernel_rfl) (by kernel_rfl) (by kernel_rfl) (by kernel_rfl) (fun _ _ _ h => h) (Or.inl ⟨by rfl, ?gy2⟩) (by assumption) ?gr2
        case gy2 => (intro W9 hW9; obtain ⟨k0, k1, km, kr⟩ := hW9; first | (go_simp; done) | (go_simp; with_reducible rfl))
        simp only [Act.put, List.getElem_toArray, List.getElem_cons_succ, List.getElem_cons_zero, List.setIfInBounds_toArray, List.set_cons_zero, List.set_cons_succ]
        refine goes_take (i := 2) (v := ?gv3) rfl (by kernel_rfl) (by kernel_rfl) (by kernel_rfl) (by kernel_rfl) (fun _ _ _ h => h) (Or.inl ⟨by rfl, ?gy3⟩) (by assumption) ?gr3
        case gy3 => (intro W9 hW9; obtain ⟨k0, k1, km, kr⟩ := hW9; first | (go_simp; done) | (go_simp; with_reducible rfl))
        simp only [Act.put, List.getElem_toArray, List.getElem_cons_succ, List.getElem_cons_zero, List.setIfInBounds_toArray, List.set_cons_zero, List.set_cons_succ]
        refine goes_take (i := 3) (v := ?gv4) rfl (by kernel_rfl) (by kernel_rfl) (by kernel_rfl) (by kernel_rfl) (fun _ _ _ h => h) (Or.inl ⟨by rfl, ?gy4⟩) (by assumption) ?gr4
        case gy4 => (intro W9 hW9; obtain ⟨k0, k1, km, kr⟩ := hW9; first | (go_simp; done) | (go_simp; with_reducible rfl))
        simp only [Act.put, List.getElem_toArray, List.getElem_cons_succ, List.getElem_cons_zero, List.setIfInBounds_toArray, List.set_cons_zero, List.set_cons_succ]
        refine goes_take (i := 4) (v := ?gv5) rfl (by kernel_rfl) (by kernel_rfl) (by kernel_rfl) (by kernel_rfl) (fun _ _ _ h => h) (Or.inl ⟨by rfl, ?gy5⟩) (by assumption) ?gr5
        case gy5 => (intro W9 hW9; obtain ⟨k0, k1, km, kr⟩ := hW9; first | (go_simp; done) | (go_simp; with_reducible rfl))
        simp only [Act.put, List.getElem_toArray, List.getElem_cons_succ, List.getElem_cons_zero, List.setIfInBounds_toArray, List.set_cons_zero, List.set_cons_succ]
        refine goes_take (i := 5) (v := ?gv6) rfl (by kernel_rfl) (by kernel_rfl) (by kernel_rfl) (by kernel_rfl) (fun _ _ _ h => h) (Or.inl ⟨by rfl, ?gy6⟩) (by assumption) ?gr6
        case gy6 => (intro W9 hW9; obtain ⟨k0, k1, km, kr⟩ := hW9; first | (go_simp; done) | (go_simp; with_reducible rfl))
        simp only [Act.put, List.getElem_toArray, List.getElem_cons_succ, List.getElem_cons_zero, List.setIfInBounds_toArray, List.set_cons_zero, List.set_cons_succ]
        refine goes_take (i := 6) (v := ?gv7) rfl (by kernel_rfl) (by kernel_rfl) (by kernel_rfl) (by kernel_rfl) (fun _ _ _ h => h) (Or.inl ⟨by rfl, ?gy7⟩) (by assumption) ?gr7
        case gy7 => (intro W9 hW9; obtain ⟨k0, k1, km, kr⟩ := hW9; first | (go_simp; done) | (go_simp; with_reducible rfl))
        simp only [Act.put, List.getElem_toArray, List.getElem_cons_succ, List.getElem_cons_zero, List.setIfInBounds_toArray, List.set_cons_zero, List.set_cons_succ]
        refine goes_take (i := 7) (v := ?gv8) rfl (by kernel_rfl) (by kernel_rfl) (by kernel_rfl) (by kernel_rfl) (fun _ _ _ h => h) (Or.inl ⟨by rfl, ?gy8⟩) (by assumption) ?gr8
        case gy8 => (intro W9 hW9; obtain ⟨k0, k1, km, kr⟩ := hW9; first | (go_simp; done) | (go_simp; with_reducible rfl))
        simp only [Act.put, List.getElem_toArray, List.getElem_cons_succ, List.getElem_cons_zero, List.setIfInBounds_toArray, List.set_cons_zero, List.set_cons_succ]
        refine goes_take (i := 8) (v := (.string (keyOfStep b L))) rfl (by kernel_rfl) (by kernel_rfl) (by kernel_rfl) (by kernel_rfl) (fun _ _ _ h => h) (Or.inl ⟨by rfl, ?gy9⟩) (by assumption) ?gr9
        case gy9 => (intro W9 hW9; obtain ⟨k0, k1, km, kr⟩ := hW9; have hcv := HCV.out W9 kr; go_simp)
        simp only [Act.put, List.getElem_toArray, List.getElem_cons_succ, List.getElem_cons_zero, List.setIfInBounds_toArray, List.set_cons_zero, List.set_cons_succ]
        refine goes_take (i := 9) (v := (.tuple #[xv, .bool true])) rfl (by kernel_rfl) (by kernel_rfl) (by kernel_rfl) (by kernel_rfl) (fun _ _ _ h => h) (Or.inl ⟨by rfl, ?gy10⟩) (by assumption) ?gr10
        case gy10 => (intro W9 hW9; obtain ⟨k0, k1, km, kr⟩ := hW9; have hlk := HLK.out W9 km; go_simp)
        simp only [Act.put, List.getElem_toArray, List.getElem_cons_succ, List.getElem_cons_zero, List.setIfInBounds_toArray, List.set_cons_zero, List.set_cons_succ]
        refine goes_take (i := 10) (v := ?gv11) rfl (by kernel_rfl) (by kernel_rfl) (by kernel_rfl) (by kernel_rfl) (fun _ _ _ h => h) (Or.inl ⟨by rfl, ?gy11⟩) (by assumption) ?gr11
        case gy11 => (intro W9 hW9; obtain ⟨k0, k1, km, kr⟩ := hW9; first | (go_simp; done) | (go_simp; with_reducible rfl))
        simp only [Act.put, List.getElem_toArray, List.getElem_cons_succ, List.getElem_cons_zero, List.setIfInBounds_toArray, List.set_cons_zero, List.set_cons_succ]
        refine goes_take (i := 11) (v := ?gv12) rfl (by kernel_rfl) (by kernel_rfl) (by kernel_rfl) (by kernel_rfl) (fun _ _ _ h => h) (Or.inl ⟨by rfl, ?gy12⟩) (by assumption) ?gr12
        case gy12 => (intro W9 hW9; obtain ⟨k0, k1, km, kr⟩ := hW9; first | (go_simp; done) | (go_simp; with_reducible rfl))
        simp only [Act.put, List.getElem_toArray, List.getElem_cons_succ, List.getElem_cons_zero, List.setIfInBounds_toArray, List.set_cons_zero, List.set_cons_succ]
        refine goes_take (i := 12) (v := ?gv13) rfl (by kernel_rfl) (by kernel_rfl) (by kernel_rfl) (by kernel_rfl) (fun _ _ _ h => h) (Or.inl ⟨by rfl, ?gy13⟩) (by assumption) ?gr13
        case gy13 => (intro W9 hW9; obtain ⟨k0, k1, km, kr⟩ := hW9; first | (go_simp; done) | (go_simp; with_reducible rfl))
        simp only [Act.put, List.getElem_toArray, List.getElem_cons_succ, List.getElem_cons_zero, List.setIfInBounds_toArray, List.set_cons_zero, List.set_cons_succ]
        refine goes_one (i := 13) (by kernel_rfl) rfl (fun K9 hK9 => ?_)
        go_simp
        refine hK9.out _ _ (fun _ => hHeld) (fun hHeld => ?_)
        have hHeld := hHeld (by decide)
        clear hK9 K9
        refine goes_one (i := 14) (by kernel_rfl) rfl (fun K9 hK9 => ?_)
        go_simp
        refine hK9.out _ _ (fun h => absurd rfl h) (fun _ => ?_)
        clear hK9 K9 hHeld
        refine goes_done (by kernel_rfl) ?_ _
        go_wp2
        refine bodyPost_ret (v := xv) (by simp [results, Tryd.results35, go_sem, *]) rfl ?_
        obtain ⟨hx, hxk⟩ := HXX.out
        obtain ⟨b', L', l', g1, g2, g3, g4⟩ := HEN.out x hx
        obtain ⟨rfl, rfl⟩ := key_inj hb g1 (by rw [hxk] at g2; injection g2)
        rw [hxv] at g3
        exact ⟨xv, l', kept, rfl, by omega, Lib.hid (HTX.out.trip.next (Below.refl _ wr).drew), Lib.hid g3, Lib.hid g4⟩
      · have hno : ∀ x ∈ es.toList, x.key ≠ .string (keyOfStep b L) := fun x hx e => hfind ⟨x, hx, e⟩
        have HLK := Lib.hid (fun (W : World) (hW : W.heap[bm]? = some (.map es c)) => look_sn hks hno W hW)
        have hv2 := row_keep (w' := wr.drew) HV.out fun g cs _ h1 => HIN.out g cs h1
        have htx2 := HTX.out.next (Below.refl _ wr).drew
        have w0c : wr.cell? ⟨t, 0, none⟩ = some (.int .i64 cnt) := (cell_of_row wr t 0 _ _ _ HTX.out.obj).trans rfl
        have w1c : wr.cell? ⟨t, 1, none⟩ = some (.map (some b1)) := (cell_of_row wr t 1 _ _ _ HTX.out.obj).trans rfl
        have w2c : wr.cell? ⟨t, 2, none⟩ = some (.map (some b2)) := (cell_of_row wr t 2 _ _ _ HTX.out.obj).trans rfl
        have HTX2 := Lib.hid htx2
        have htx2b := htx2.below.size
        have HST := Lib.hid (step_any cnt b1 b2 E A (.slice a L.length cp) (L.map fun x : Nat => (x : Int)) b wr.drew hcnt hEl hAl (by rw [List.length_map]; exact hL) hb (IntsAt.row (n := L.length) (by rw [List.map_map]; exact hv2)) (htx2.wk.below htx2.below) (HT.out.below htx2.below))
        clear hes hks hen hno hfind c5 hv2 htx2
        go_upto_region 7 with fail
        refine region_goes 14 15 rfl (fun W => W.cell? ⟨t, 3, none⟩ = some (.map (some bm)) ∧ W.cell? ⟨t, 5, none⟩ = some (.slice ka2 kn kc2) ∧ W.heap[bm]? = some (.map es c) ∧ W.ownsRow w0.heap.size 5 1 (.slice ka2 kn kc2) kn (u8s (b :: encL L))) mixed ⟨d3, d5, dm, dr⟩ (fun hHeld => ?_)
        clear d3 d5 dm dr
        refine goes_take (i := 0) (v := ?gv14) rfl (by kernel_rfl) (by kernel_rfl) (by kernel_rfl) (by kernel_rfl) (fun _ _ _ h => h) (Or.inl ⟨by rfl, ?gy14⟩) (by assumption) ?gr14
        case gy14 => (intro W9 hW9; obtain ⟨k0, k1, km, kr⟩ := hW9; first | (go_simp; done) | (go_simp; with_reducible rfl))
        simp only [Act.put, List.getElem_toArray, List.getElem_cons_succ, List.getElem_cons_zero, List.setIfInBounds_toArray, List.set_cons_zero, List.set_cons_succ]
        refine goes_take (i := 1) (v := ?gv15) rfl (by kernel_rfl) (by kernel_rfl) (by kernel_rfl) (by kernel_rfl) (fun _ _ _ h => h) (Or.inl ⟨by rfl, ?gy15⟩) (by assumption) ?gr15
        case gy15 => (intro W9 hW9; obtain ⟨k0, k1, km, kr⟩ := hW9; first | (go_simp; done) | (go_simp; with_reducible rfl))
        simp only [Act.put, List.getElem_toArray, List.getElem_cons_succ, List.getElem_cons_zero, List.setIfInBounds_toArray, List.set_cons_zero, List.set_cons_succ]
        refine goes_take (i := 2) (v := ?gv16) rfl (by kernel_rfl) (by kernel_rfl) (by kernel_rfl) (by kernel_rfl) (fun _ _ _ h => h) (Or.inl ⟨by rfl, ?gy16⟩) (by assumption) ?gr16
        case gy16 => (intro W9 hW9; obtain ⟨k0, k1, km, kr⟩ := hW9; first | (go_simp; done) | (go_simp; with_reducible rfl))
        simp only [Act.put, List.getElem_toArray, List.getElem_cons_succ, List.getElem_cons_zero, List.setIfInBounds_toArray, List.set_cons_zero, List.set_cons_succ]
        refine goes_take (i := 3) (v := ?gv17) rfl (by kernel_rfl) (by kernel_rfl) (by kernel_rfl) (by kernel_rfl) (fun _ _ _ h => h) (Or.inl ⟨by rfl, ?gy17⟩) (by assumption) ?gr17
        case gy17 => (intro W9 hW9; obtain ⟨k0, k1, km, kr⟩ := hW9; first | (go_simp; done) | (go_simp; with_reducible rfl))
        simp only [Act.put, List.getElem_toArray, List.getElem_cons_succ, List.getElem_cons_zero, List.setIfInBounds_toArray, List.set_cons_zero, List.set_cons_succ]
        refine goes_take (i := 4) (v := ?gv18) rfl (by kernel_rfl) (by kernel_rfl) (by kernel_rfl) (by kernel_rfl) (fun _ _ _ h => h) (Or.inl ⟨by rfl, ?gy18⟩) (by assumption) ?gr18
        case gy18 => (intro W9 hW9; obtain ⟨k0, k1, km, kr⟩ := hW9; first | (go_simp; done) | (go_simp; with_reducible rfl))
        simp only [Act.put, List.getElem_toArray, List.getElem_cons_succ, List.getElem_cons_zero, List.setIfInBounds_toArray, List.set_cons_zero, List.set_cons_succ]
        refine goes_take (i := 5) (v := ?gv19) rfl (by kernel_rfl) (by kernel_rfl) (by kernel_rfl) (by kernel_rfl) (fun _ _ _ h => h) (Or.inl ⟨by rfl, ?gy19⟩) (by assumption) ?gr19
        case gy19 => (intro W9 hW9; obtain ⟨k0, k1, km, kr⟩ := hW9; first | (go_simp; done) | (go_simp; with_reducible rfl))
        simp only [Act.put, List.getElem_toArray, List.getElem_cons_succ, List.getElem_cons_zero, List.setIfInBounds_toArray, List.set_cons_zero, List.set_cons_succ]
        refine goes_take (i := 6) (v := ?gv20) rfl (by kernel_rfl) (by kernel_rfl) (by kernel_rfl) (by kernel_rfl) (fun _ _ _ h => h) (Or.inl ⟨by rfl, ?gy20⟩) (by assumption) ?gr20
        case gy20 => (intro W9 hW9; obtain ⟨k0, k1, km, kr⟩ := hW9; first | (go_simp; done) | (go_simp; with_reducible rfl))
        simp only [Act.put, List.getElem_toArray, List.getElem_cons_succ, List.getElem_cons_zero, List.setIfInBounds_toArray, List.set_cons_zero, List.set_cons_succ]
        refine goes_take (i := 7) (v := ?gv21) rfl (by kernel_rfl) (by kernel_rfl) (by kernel_rfl) (by kernel_rfl) (fun _ _ _ h => h) (Or.inl ⟨by rfl, ?gy21⟩) (by assumption) ?gr21
        case gy21 => (intro W9 hW9; obtain ⟨k0, k1, km, kr⟩ := hW9; first | (go_simp; done) | (go_simp; with_reducible rfl))
        simp only [Act.put, List.getElem_toArray, List.getElem_cons_succ, List.getElem_cons_zero, List.setIfInBounds_toArray, List.set_cons_zero, List.set_cons_succ]
        refine goes_take (i := 8) (v := (.string (keyOfStep b L))) rfl (by kernel_rfl) (by kernel_rfl) (by kernel_rfl) (by kernel_rfl) (fun _ _ _ h => h) (Or.inl ⟨by rfl, ?gy22⟩) (by assumption) ?gr22
        case gy22 => (intro W9 hW9; obtain ⟨k0, k1, km, kr⟩ := hW9; have hcv := HCV.out W9 kr; go_simp)
        simp only [Act.put, List.getElem_toArray, List.getElem_cons_succ, List.getElem_cons_zero, List.setIfInBounds_toArray, List.set_cons_zero, List.set_cons_succ]
        refine goes_take (i := 9) (v := (.tuple #[.slice none 0 0, .bool false])) rfl (by kernel_rfl) (by kernel_rfl) (by kernel_rfl) (by kernel_rfl) (fun _ _ _ h => h) (Or.inl ⟨by rfl, ?gy23⟩) (by assumption) ?gr23
        case gy23 => (intro W9 hW9; obtain ⟨k0, k1, km, kr⟩ := hW9; have hlk := HLK.out W9 km; go_simp)
        simp only [Act.put, List.getElem_toArray, List.getElem_cons_succ, List.getElem_cons_zero, List.setIfInBounds_toArray, List.set_cons_zero, List.set_cons_succ]
        refine goes_take (i := 10) (v := ?gv24) rfl (by kernel_rfl) (by kernel_rfl) (by kernel_rfl) (by kernel_rfl) (fun _ _ _ h => h) (Or.inl ⟨by rfl, ?gy24⟩) (by assumption) ?gr24
        case gy24 => (intro W9 hW9; obtain ⟨k0, k1, km, kr⟩ := hW9; first | (go_simp; done) | (go_simp; with_reducible rfl))
        simp only [Act.put, List.getElem_toArray, List.getElem_cons_succ, List.getElem_cons_zero, List.setIfInBounds_toArray, List.set_cons_zero, List.set_cons_succ]
        refine goes_take (i := 11) (v := ?gv25) rfl (by kernel_rfl) (by kernel_rfl) (by kernel_rfl) (by kernel_rfl) (fun _ _ _ h => h) (Or.inl ⟨by rfl, ?gy25⟩) (by assumption) ?gr25
        case gy25 => (intro W9 hW9; obtain ⟨k0, k1, km, kr⟩ := hW9; first | (go_simp; done) | (go_simp; with_reducible rfl))
        simp only [Act.put, List.getElem_toArray, List.getElem_cons_succ, List.getElem_cons_zero, List.setIfInBounds_toArray, List.set_cons_zero, List.set_cons_succ]
        refine goes_take (i := 12) (v := ?gv26) rfl (by kernel_rfl) (by kernel_rfl) (by kernel_rfl) (by kernel_rfl) (fun _ _ _ h => h) (Or.inl ⟨by rfl, ?gy26⟩) (by assumption) ?gr26
        case gy26 => (intro W9 hW9; obtain ⟨k0, k1, km, kr⟩ := hW9; first | (go_simp; done) | (go_simp; with_reducible rfl))
        simp only [Act.put, List.getElem_toArray, List.getElem_cons_succ, List.getElem_cons_zero, List.setIfInBounds_toArray, List.set_cons_zero, List.set_cons_succ]
        refine goes_one (i := 13) (by kernel_rfl) rfl (fun K9 hK9 => ?_)
        go_simp
        refine hK9.out _ _ (fun _ => hHeld) (fun hHeld => ?_)
        have hHeld := hHeld (by decide)
        clear hK9 K9
        refine goes_one (i := 14) (by kernel_rfl) rfl (fun K9 hK9 => ?_)
        go_simp
        refine hK9.out _ _ (fun h => absurd rfl h) (fun _ => ?_)
        clear hK9 K9 hHeld
        refine goes_done (by kernel_rfl) ?_ _
        go_wp2_with (first
          | (go_at_call 31; refine HST.out.mono ?_; rintro e w9 ⟨v9, l, rfl, hr9, hl9, hb9⟩; obtain ⟨a9, cp9, rfl⟩ := int_form hr9.out; have htx9 := HTX2.out.next hb9.out; have c9 : w9.cell? ⟨t, 5, none⟩ = some (.slice ka2 kn kc2) := (cell_of_row w9 t 5 _ _ _ htx9.obj).trans rfl; have hcv9 := HCV.out w9 (by have h1 := htx9.row; rw [hkn] at h1; exact h1); have hrow9 := own_weak hr9.out htx2b; have hll := rise_len hl9.out; have HKP := Lib.hid (keep_any w0 t bm b1 b2 cnt kept E A b L l (.slice a9 l.length cp9) w9 htx9.trip hb hrow9 hl9.out (by rw [key_size]; omega)); have HR9 := Lib.hid hrow9; clear htx9 hrow9)
          | (go_at_call 60; refine HKP.out.mono ?_; rintro e w10 ⟨rfl, hfin⟩))
        refine bodyPost_ret (v := .slice a9 l.length cp9) (by simp [results, Tryd.results35, go_sem, *]) rfl ?_
        exact ⟨_, l, _, rfl, by rw [key_size]; omega, Lib.hid hfin.out.1, Lib.hid (row_keep HR9.out fun g cs _ h1 => hfin.out.2 g cs h1), hl9⟩
end Go.Proofs.YtpfhhdiipedklaaDoor
set_option maxRecDepth 100000
namespace Go.Proofs.YtpfhhdiipedklaaDoor
open Go.RowKit

theorem Reach.mono {n : Nat} {E : List (Nat × Nat)} {L M : List Int} (h : ∀ x, x ∈ L → x ∈ M) {s : Nat} (hr : Reach n E L s) : Reach n E M s := by
  induction hr with
  | base h1 h2 h3 => exact .base (h _ h1) h2 h3
  | step _ h1 h2 ih => exact .step ih h1 h2
theorem mem_stepT {A : List (Nat × Nat × BitVec 256)} {b : Nat} {L : List Int} {x : Int} : x ∈ stepT A b L ↔ ∃ k ∈ L, x ∈ tgtB (outs A k) b := by
  unfold stepT; exact List.mem_flatMap
/-- Where a byte leads, and then nothing, from the states that P tells. -/
def Next (cnt : Nat) (E : List (Nat × Nat)) (A : List (Nat × Nat × BitVec 256)) (P : Nat → Prop) (b : Nat) (s : Nat) : Prop := ∃ l : List Nat, (∀ x, x ∈ l → P x) ∧ Reach cnt E (stepT A b (l.map fun x : Nat => (x : Int))) s
theorem next_row {cnt : Nat} {E : List (Nat × Nat)} {A : List (Nat × Nat × BitVec 256)} {P : Nat → Prop} {b : Nat} {l : List Nat} (h : ∀ x, x ∈ l ↔ P x) (s : Nat) : Reach cnt E (stepT A b (l.map fun x : Nat => (x : Int))) s ↔ Next cnt E A P b s := by
  constructor
  · exact fun hr => ⟨l, fun x hx => (h x).1 hx, hr⟩
  · rintro ⟨m, hm, hr⟩
    refine hr.mono fun x hx => ?_
    obtain ⟨k, hk, h1⟩ := mem_stepT.1 hx
    refine mem_stepT.2 ⟨k, ?_, h1⟩
    obtain ⟨y, hy, rfl⟩ := List.mem_map.1 hk
    exact List.mem_map.2 ⟨y, (h y).2 (hm y hy), rfl⟩
/-- Where a text leads from the first state. -/
def After (cnt : Nat) (E : List (Nat × Nat)) (A : List (Nat × Nat × BitVec 256)) (bs : List Nat) : Nat → Prop := bs.foldl (Next cnt E A) (Reach cnt E [0])
theorem after_take {cnt : Nat} {E : List (Nat × Nat)} {A : List (Nat × Nat × BitVec 256)} {bs : List Nat} {i : Nat} (h : i < bs.length) : After cnt E A (bs.take (i + 1)) = Next cnt E A (After cnt E A (bs.take i)) bs[i] := by
  unfold After
  rw [List.take_succ_eq_append_getElem h, List.foldl_append]; rfl
theorem reach_nil {n : Nat} {E : List (Nat × Nat)} {s : Nat} (h : Reach n E [] s) : False := by
  induction h with
  | base h1 => cases h1
  | step _ _ _ ih => exact ih
theorem next_none {cnt : Nat} {E : List (Nat × Nat)} {A : List (Nat × Nat × BitVec 256)} {P : Nat → Prop} (h : ∀ s, ¬ P s) (b : Nat) (s : Nat) : ¬ Next cnt E A P b s := by
  rintro ⟨l, hl, hr⟩
  obtain rfl : l = [] := List.eq_nil_iff_forall_not_mem.2 fun x hx => h x (hl x hx)
  exact reach_nil hr
/-- Where nothing is left, nothing comes. -/
theorem after_none {cnt : Nat} {E : List (Nat × Nat)} {A : List (Nat × Nat × BitVec 256)} {bs : List Nat} : ∀ (d i : Nat), bs.length = i + d → (∀ s, ¬ After cnt E A (bs.take i) s) → ∀ s, ¬ After cnt E A bs s
  | 0, i, hl, h => by
    rw [List.take_of_length_le (by omega)] at h
    exact h
  | d + 1, i, hl, h => after_none d (i + 1) (by omega) fun s => by
    rw [after_take (by omega)]
    exact next_none h _ s
end Go.Proofs.YtpfhhdiipedklaaDoor
set_option maxRecDepth 100000
namespace Go.Proofs.YtpfhhdiipedklaaDoor
open Go.RowKit

theorem Next.lt {cnt : Nat} {E : List (Nat × Nat)} {A : List (Nat × Nat × BitVec 256)} {P : Nat → Prop} {b s : Nat} (h : Next cnt E A P b s) : s < cnt := by
  obtain ⟨_, _, h⟩ := h
  exact h.lt
theorem after_lt {cnt : Nat} {E : List (Nat × Nat)} {A : List (Nat × Nat × BitVec 256)} {bs : List Nat} {s : Nat} (h : After cnt E A bs s) : s < cnt := by
  rcases List.eq_nil_or_concat bs with rfl | ⟨l, b, rfl⟩
  · exact Reach.lt h
  · rw [List.concat_eq_append] at h
    unfold After at h
    rw [List.foldl_append] at h
    exact Next.lt h
/-- A text's bytes. -/
def bytesOf (s : ByteArray) : List Nat := s.data.toList.map UInt8.toNat
theorem bytesOf_len (s : ByteArray) : (bytesOf s).length = s.size := by
  rw [bytesOf, List.length_map, Array.length_toList]; rfl
theorem bytesOf_get (s : ByteArray) (k : Nat) (h : k < s.size) (h' : k < (bytesOf s).length) : (bytesOf s)[k] = s[k].toNat := by
  simp only [bytesOf, List.getElem_map, Array.getElem_toList]; rfl
/-- Does a machine go through a text? -/
noncomputable def goesB (cnt : Nat) (E : List (Nat × Nat)) (A : List (Nat × Nat × BitVec 256)) (s : ByteArray) : Bool := @decide (After cnt E A (bytesOf s) 1) (Classical.propDecidable _)
theorem goesB_true {cnt : Nat} {E : List (Nat × Nat)} {A : List (Nat × Nat × BitVec 256)} {s : ByteArray} : goesB cnt E A s = true ↔ After cnt E A (bytesOf s) 1 := @decide_eq_true_iff _ (Classical.propDecidable _)
theorem goesB_of {cnt : Nat} {E : List (Nat × Nat)} {A : List (Nat × Nat × BitVec 256)} {s : ByteArray} {l : List Nat} (h : 1 ∈ l ↔ After cnt E A (bytesOf s) 1) : decide ((1 : Int) ∈ l.map fun x : Nat => (x : Int)) = goesB cnt E A s := by
  rw [Bool.eq_iff_iff, goesB_true, decide_eq_true_iff, ← h]
  constructor
  · intro h1
    obtain ⟨x, hx, e⟩ := List.mem_map.1 h1
    obtain rfl : x = 1 := by omega
    exact hx
  · exact fun h1 => List.mem_map.2 ⟨1, h1, rfl⟩
set_option linter.unusedSimpArgs false in
set_option maxHeartbeats 4000000 in
theorem nwhole_any (cnt : Nat) (E : List (Nat × Nat)) (A : List (Nat × Nat × BitVec 256)) (ve va : Value) (s : ByteArray) (w : World) (hcnt : cnt ≤ 4096) (hE : RowE w ve E) (hA : RowA w va A) (hle : E.length ≤ 20000) (hla : A.length ≤ 20000) (hs : s.size ≤ 60) (hT : Tab w) :
    Calls Tryd.prog 16 #[.agg #[.int .i64 cnt, ve, va, .int .i64 0, .int .i64 1], .string s] w fun e w' => e = .returned (.bool (goesB cnt E A s)) ∧ Below w.heap.size w w' := by
  obtain ⟨ae, ce, rfl⟩ := hE.form
  obtain ⟨aa, ca, rfl⟩ := hA.form
  obtain ⟨N, hN⟩ : ∃ N, w.heap.size = N := ⟨_, rfl⟩
  have hb0 := new_one w (.cells #[.int .i64 cnt, .slice ae E.length ce, .slice aa A.length ca, .int .i64 0, .int .i64 1] 27)
  have hx0 := heap_alloc_new w (.cells #[.int .i64 cnt, .slice ae E.length ce, .slice aa A.length ca, .int .i64 0, .int .i64 1] 27)
  have hs0 : (w.alloc (.cells #[.int .i64 cnt, .slice ae E.length ce, .slice aa A.length ca, .int .i64 0, .int .i64 1] 27)).heap.size = N + 1 := by simp [hN]
  have HNT := Lib.hid (newTrip_any cnt E A _ _ _ (hE.below hb0) (hA.below hb0) hle hla)
  have HX0 := Lib.hid hx0
  have HB0 := Lib.hid hb0
  have HS0 := Lib.hid hs0
  have HT0 := Lib.hid (hT.below hb0)
  clear hE hA hb0 hx0 hT hs0
  rw [hN]
  go_enter Tryd.func16, Tryd.ntmps16
  go_upto_region 2 with (go_at_call 34; refine HNT.out.mono ?_; rintro e w1 ⟨w0, t, bm, b1, b2, rfl, hTI, hb1⟩)
  have hle0 : N + 1 ≤ w0.heap.size := by have := hb1.out.size; rw [HS0.out] at this; exact this
  have HW0 := Lib.hid hle0
  have HTW := Lib.hid (HT0.out.below hb1.out)
  have HBN := Lib.hid (show Below N w w0 from by rw [← hN]; exact HB0.out.trans (hb1.out.mono HB0.out.size))
  have hxn0 : w0.heap[N]? = some (.cells #[.int .i64 cnt, .slice ae E.length ce, .slice aa A.length ca, .int .i64 0, .int .i64 1] 27 (0, 0)) := (hb1.out.block N (by rw [HS0.out]; omega)).trans (by have := HX0.out; rw [hN] at this; exact this)
  have HXN := Lib.hid hxn0
  have hxn := (hTI.out.below.block N (by omega)).trans hxn0
  obtain ⟨kv, xs, hob, _⟩ := hTI.out.obj
  have d0 : w1.drew.cell? ⟨t, 0, none⟩ = some (.int .i64 cnt) := (cell_of_row w1 t 0 _ _ _ hob).trans rfl
  have d1 : w1.drew.cell? ⟨t, 1, none⟩ = some (.map (some b1)) := (cell_of_row w1 t 1 _ _ _ hob).trans rfl
  have d2 : w1.drew.cell? ⟨t, 2, none⟩ = some (.map (some b2)) := (cell_of_row w1 t 2 _ _ _ hob).trans rfl
  have d3 : w1.drew.cell? ⟨N, 3, none⟩ = some (.int .i64 0) := (cell_of_row w1 N 3 _ _ _ hxn).trans rfl
  have mixed : Tryd.prog.follows .mixedOrders = true := by kernel_rfl
  obtain ⟨g, hg⟩ : ∃ g, w1.heap.size = g := ⟨_, rfl⟩
  have HG := Lib.hid hg
  have HHS := Lib.hid (close_full cnt b1 b2 E A (.slice (some ⟨g, 0, none⟩) 1 1) [0] (w1.drew.alloc (.cells #[.int .i64 0] 3)) (by omega) (by omega) (by decide)
    ⟨_, _, rfl, fun i hi => ⟨g, 0, rfl, by
      obtain rfl : i = 0 := by simp at hi; omega
      have := heap_alloc_new w1.drew (.cells #[.int .i64 0] 3)
      rw [show w1.drew.heap.size = g from hg] at this
      exact (cell_of_row _ g 0 _ _ _ this).trans rfl⟩⟩
    (hTI.out.wk.below ((hTI.out.below.trans (Below.refl _ w1).drew).trans ((new_one w1.drew (.cells #[.int .i64 0] 3)).mono hTI.out.below.size)))
    (HTW.out.below ((hTI.out.below.trans (Below.refl _ w1).drew).trans ((new_one w1.drew (.cells #[.int .i64 0] 3)).mono hTI.out.below.size))))
  clear hob hxn hxn0 HNT HB0 HX0 HS0 hb1 hN hg
  refine region_goes 8 9 rfl (fun W => W.cell? ⟨t, 0, none⟩ = some (.int .i64 cnt) ∧ W.cell? ⟨t, 1, none⟩ = some (.map (some b1)) ∧ W.cell? ⟨t, 2, none⟩ = some (.map (some b2)) ∧ W.cell? ⟨N, 3, none⟩ = some (.int .i64 0)) mixed ⟨d0, d1, d2, d3⟩ (fun hHeld => ?_)
  clear d0 d1 d2 d3
  refine goes_take (i := 0) (v := ?gv1) rfl (by kernel_rfl) (by kernel_rfl) (by kernel_rfl) (by kernel_rfl) (fun _ _ _ h => h) (Or.inl ⟨by rfl, ?gy1⟩) (by assumption) ?gr1
  case gy1 => (intro W9 hW9; obtain ⟨k0, k1, k2, k3⟩ := hW9; first | (go_simp; done) | (go_simp; with_reducible rfl))
  simp only [Act.put, List.getElem_toArray, List.getElem_cons_succ, List.getElem_cons_zero, List.setIfInBounds_toArray, List.set_cons_zero, List.set_cons_succ]
  refine goes_take (i := 1) (v := ?gv2) rfl (by kernel_rfl) (by kernel_rfl) (by kernel_rfl) (by kernel_rfl) (fun _ _ _ h => h) (Or.inl ⟨by rfl, ?gy2⟩) (by assumption) ?gr2
  case gy2 => (intro W9 hW9; obtain ⟨k0, k1, k2, k3⟩ := hW9; first | (go_simp; done) | (go_simp; with_reducible rfl))
  simp only [Act.put, List.getElem_toArray, List.getElem_cons_succ, List.getElem_cons_zero, List.setIfInBounds_toArray, List.set_cons_zero, List.set_cons_succ]
  refine goes_take (i := 2) (v := ?gv3) rfl (by kernel_rfl) (by kernel_rfl) (by kernel_rfl) (by kernel_rfl) (fun _ _ _ h => h) (Or.inl ⟨by rfl, ?gy3⟩) (by assumption) ?gr3
  case gy3 => (intro W9 hW9; obtain ⟨k0, k1, k2, k3⟩ := hW9; first | (go_simp; done) | (go_simp; with_reducible rfl))
  simp only [Act.put, List.getElem_toArray, List.getElem_cons_succ, List.getElem_cons_zero, List.setIfInBounds_toArray, List.set_cons_zero, List.set_cons_succ]
  refine goes_take (i := 3) (v := ?gv4) rfl (by kernel_rfl) (by kernel_rfl) (by kernel_rfl) (by kernel_rfl) (fun _ _ _ h => h) (Or.inl ⟨by rfl, ?gy4⟩) (by assumption) ?gr4
  case gy4 => (intro W9 hW9; obtain ⟨k0, k1, k2, k3⟩ := hW9; first | (go_simp; done) | (go_simp; with_reducible rfl))
  simp only [Act.put, List.getElem_toArray, List.getElem_cons_succ, List.getElem_cons_zero, List.setIfInBounds_toArray, List.set_cons_zero, List.set_cons_succ]
  refine goes_take (i := 4) (v := ?gv5) rfl (by kernel_rfl) (by kernel_rfl) (by kernel_rfl) (by kernel_rfl) (fun _ _ _ h => h) (Or.inl ⟨by rfl, ?gy5⟩) (by assumption) ?gr5
  case gy5 => (intro W9 hW9; obtain ⟨k0, k1, k2, k3⟩ := hW9; first | (go_simp; done) | (go_simp; with_reducible rfl))
  simp only [Act.put, List.getElem_toArray, List.getElem_cons_succ, List.getElem_cons_zero, List.setIfInBounds_toArray, List.set_cons_zero, List.set_cons_succ]
  refine goes_take (i := 5) (v := ?gv6) rfl (by kernel_rfl) (by kernel_rfl) (by kernel_rfl) (by kernel_rfl) (fun _ _ _ h => h) (Or.inl ⟨by rfl, ?gy6⟩) (by assumption) ?gr6
  case gy6 => (intro W9 hW9; obtain ⟨k0, k1, k2, k3⟩ := hW9; first | (go_simp; done) | (go_simp; with_reducible rfl))
  simp only [Act.put, List.getElem_toArray, List.getElem_cons_succ, List.getElem_cons_zero, List.setIfInBounds_toArray, List.set_cons_zero, List.set_cons_succ]
  refine goes_one (i := 6) (by kernel_rfl) rfl (fun K9 hK9 => ?_)
  go_simp
  rw [HG.out]
  have hba := new_one w1.drew (.cells #[.int .i64 0] 3)
  obtain ⟨k0, k1, k2, k3⟩ := hHeld
  refine hK9.out _ _ (fun _ => ⟨cell_below hba k0, cell_below hba k1, cell_below hba k2, cell_below hba k3⟩) (fun hHeld => ?_)
  have hHeld := hHeld (by decide)
  clear hK9 K9 k0 k1 k2 k3
  refine goes_one (i := 7) (by kernel_rfl) rfl (fun K9 hK9 => ?_)
  go_simp
  refine HHS.out.mono ?_
  rintro e w5 ⟨v5, l5, rfl, hr5, hl5, hb5⟩
  have hba5 : Below w1.heap.size w1 w5 := ((Below.refl _ w1).drew.trans hba).trans (hb5.out.mono hba.size)
  obtain ⟨k0, k1, k2, k3⟩ := hHeld
  refine hK9.out _ _ (fun _ => ⟨cell_below hb5.out k0, cell_below hb5.out k1, cell_below hb5.out k2, cell_below hb5.out k3⟩) (fun hHeld => ?_)
  have hHeld := hHeld (by decide)
  clear hK9 K9 k0 k1 k2 k3
  refine goes_one (i := 8) (by kernel_rfl) rfl (fun K9 hK9 => ?_)
  go_simp
  refine hK9.out _ _ (fun h => absurd rfl h) (fun _ => ?_)
  clear hK9 K9 hHeld
  refine goes_done (by kernel_rfl) ?_ _
  have HTI := Lib.hid (hTI.out.next hba5)
  have HR := Lib.hid (own_weak hr5.out (show w0.heap.size ≤ _ from Nat.le_trans hTI.out.below.size hba.size))
  have HL := Lib.hid (show l5.Pairwise (· < ·) ∧ ∀ x, x ∈ l5 ↔ After cnt E A ((bytesOf s).take 0) x from hl5.out)
  clear hHeld hba5 hba hr5 hl5 hb5 hTI HHS HG
  go_wp2
  go_loopw [6, 7] (fun v x wr => ∃ (k kept : Nat) (l : List Nat), x = .int .i64 k ∧ k ≤ s.size ∧ kept ≤ k * (1 + 4 * cnt) ∧ Hid (TI w0 wr t bm b1 b2 cnt kept E A) ∧ Hid (wr.ownsRow w0.heap.size 3 1 v l.length (l.map fun x : Nat => Value.int .i64 (x : Int))) ∧ Hid (l.Pairwise (· < ·) ∧ ∀ x, x ∈ l ↔ After cnt E A ((bytesOf s).take k) x)) (fun _ x _ => s.size - (intOf x).toNat)
  case atStart => exact ⟨0, 0, l5, rfl, Nat.zero_le _, Nat.zero_le _, HTI, HR, HL⟩
  case round =>
    clear HTI HR HL
    obtain ⟨k, kept, l, rfl, hk, hkp, HTI, HR, HL⟩ := hrel
    obtain ⟨a, cp, rfl⟩ := int_form HR.out
    have hlc : l.length ≤ cnt := by
      refine nodup_nat_le cnt l (HL.out.1.imp fun h => Nat.ne_of_lt h) fun x hx => ?_
      exact after_lt ((HL.out.2 x).1 hx)
    have HBW := Lib.hid (show Below N w wr from HBN.out.trans (HTI.out.below.mono (by have := HW0.out; omega)))
    have HSZ : N ≤ wr.heap.size := by have := HTI.out.below.size; have := HW0.out; omega
    have c4 : wr.cell? ⟨N, 4, none⟩ = some (.int .i64 1) := (cell_of_row wr N 4 _ _ _ ((HTI.out.below.block N (by have := HW0.out; omega)).trans HXN.out)).trans rfl
    have HCT := Lib.hid (containsI_any (.slice a l.length cp) (l.map fun x : Nat => (x : Int)) 1 wr (by rw [List.length_map]; omega) (IntsAt.row (n := l.length) (by rw [List.map_map]; exact HR.out)))
    by_cases hlt : k < s.size
    · have hdd : decide ((k : Int) < s.size) = true := by simpa using hlt
      by_cases hl0 : 0 < l.length
      · have hd2 : decide ((l.length : Int) > 0) = true := by simpa using hl0
        have hd3 : decide ((0 : Int) < l.length) = true := by simpa using hl0
        have hby : s[k].toNat < 256 := UInt8.toNat_lt _
        have hkn : (kept : Nat) + (1 + 3 * l.length + cnt) ≤ (k + 1) * (1 + 4 * cnt) := by rw [Nat.add_mul, Nat.one_mul]; omega
        have hkm : (k + 1) * (1 + 4 * cnt) ≤ 1048576 := Nat.le_trans (Nat.mul_le_mul (show k + 1 ≤ 60 by omega) (show 1 + 4 * cnt ≤ 16385 by omega)) (by decide)
        have HST := Lib.hid (tstep_any w0 t bm b1 b2 cnt kept E A s[k].toNat l _ wr HTI.out hby HR.out (by omega) (by omega) hla (by omega) (fun x hx => by have := after_lt ((HL.out.2 x).1 hx); omega) (Nat.le_trans hkn hkm) HTW.out)
        have HNX := Lib.hid (show ∀ l' : List Nat, (l'.Pairwise (· < ·) ∧ ∀ x, x ∈ l' ↔ Reach cnt E (stepT A s[k].toNat (l.map fun x : Nat => (x : Int))) x) → l'.Pairwise (· < ·) ∧ ∀ x, x ∈ l' ↔ After cnt E A ((bytesOf s).take (k + 1)) x from fun l' h => ⟨h.1, fun x => by
          rw [after_take (by rw [bytesOf_len]; exact hlt), bytesOf_get s k hlt, ← next_row (fun x => HL.out.2 x)]
          exact h.2 x⟩)
        have HKN := Lib.hid hkn
        clear c4 HCT hkn hkm hkp hlc HSZ HBW hby
        go_wp2_with (go_at_call 35; refine HST.out.mono ?_; rintro e w6 ⟨v6, l6, kept6, rfl, hkp6, hTI6, hr6, hl6⟩)
        exact ⟨⟨k + 1, kept6, l6, rfl, hlt, Nat.le_trans hkp6 HKN.out, hTI6, hr6, Lib.hid (HNX.out l6 hl6.out)⟩, by simp only [intOf]; omega⟩
      · have hd2 : decide ((l.length : Int) > 0) = false := decide_eq_false (by omega)
        have hd3 : decide ((0 : Int) < l.length) = false := decide_eq_false (by omega)
        have HFN := Lib.hid (goesB_of (cnt := cnt) (E := E) (A := A) (s := s) (l := l) (by
          have hn : ∀ x, ¬ After cnt E A ((bytesOf s).take k) x := fun x hx => by
            have := (HL.out.2 x).2 hx
            have := List.length_pos_of_mem this
            omega
          exact iff_of_false (fun h => hn 1 ((HL.out.2 1).1 h)) (after_none (s.size - k) k (by rw [bytesOf_len]; omega) hn 1)))
        rw [HFN.out] at HCT
        clear HFN
        go_wp2_with (go_at_call 36; refine HCT.out.mono ?_; rintro e w9 ⟨rfl, hb9⟩)
        go_ret
        refine ⟨rfl, ?_⟩
        exact HBW.out.trans (hb9.mono HSZ)
    · have hdd : decide ((k : Int) < s.size) = false := by simpa using hlt
      have HFN := Lib.hid (goesB_of (cnt := cnt) (E := E) (A := A) (s := s) (l := l) (by
        have := HL.out.2 1
        rwa [List.take_of_length_le (by rw [bytesOf_len]; omega)] at this))
      rw [HFN.out] at HCT
      clear HFN
      go_wp2_with (go_at_call 36; refine HCT.out.mono ?_; rintro e w9 ⟨rfl, hb9⟩)
      go_ret
      refine ⟨rfl, ?_⟩
      exact HBW.out.trans (hb9.mono HSZ)
end Go.Proofs.YtpfhhdiipedklaaDoor
set_option maxRecDepth 100000
namespace Go.Proofs.YtpfhhdiipedklaaDoor
open Go.RowKit

theorem size_le_sizes {l : List Pat} {q : Pat} (h : q ∈ l) : q.size ≤ Pat.sizes l := by
  obtain ⟨i, hi, rfl⟩ := List.getElem_of_mem h
  exact size_kid l i hi
theorem good_fit (p : Pat) : ∀ d, p.good = true → d + p.size ≤ 65 → p.fit d = true := by
  induction p using Pat.by_size with | h p ih => ?_
  intro d h hs
  rw [good_eq, Bool.and_eq_true, List.all_eq_true] at h
  have hsz : p.size = 1 + Pat.sizes p.kids := by cases p; simp only [Pat.size, Pat.kids]
  rw [fit_eq, Bool.and_eq_true, Bool.and_eq_true, List.all_eq_true]
  refine ⟨by simp; omega, h.1, fun q hq => ih q hq (d + 1) (h.2 q hq) ?_⟩
  have := size_le_sizes hq
  omega
/-- A row of bytes as a string. -/
theorem conv_row {w : World} {B : Nat} {L : List Nat} {v : Value} (h : w.ownsRow B 5 1 v L.length (u8s L)) :
    (convert 67 9 v).run Tryd.prog w = .ok (.string ⟨(L.map fun x => UInt8.ofNat x).toArray⟩) w := by
  obtain ⟨a, cp, rfl⟩ : ∃ a cp, v = .slice a L.length cp := by
    rcases h.2 with ⟨rfl, h2⟩ | ⟨g, cap, cur, rfl, _⟩
    · exact ⟨none, 0, by rw [h2]⟩
    · exact ⟨_, _, rfl⟩
  rw [run_convert_bytes_string w _ _ _ _ L.length cp Tryd.underlying67 Tryd.underlying5 Tryd.underlying9]
  by_cases h0 : 0 < L.length
  · obtain ⟨g, c, e, hc⟩ := row_cell h h0
    cases e
    have hl := run_loadCells_list (P := Tryd.prog) (w := w) ⟨g, 0, none⟩ (u8s L) (fun j v hv => by
      have := hc j v hv
      rw [show (⟨g, 0, none⟩ : Addr).add j = ⟨g, j, none⟩ by simp [Addr.add]; intro e; subst e; rfl]; exact this)
    have hlen : (u8s L).length = L.length := by unfold u8s; rw [List.length_map]
    rw [hlen] at hl
    have hu : u8s L = (L.map fun x : Nat => (x : Int)).map (Value.int .u8) := by unfold u8s; rw [List.map_map]; rfl
    rw [hu] at hl
    rw [run_bytesToString w ⟨g, 0, none⟩ L.length cp _ hl, foldl_push_bytes]
    simp [ByteArray.empty, ByteArray.emptyWithCapacity]
    rfl
  · have hL : L = [] := List.eq_nil_of_length_eq_zero (by omega)
    subst hL
    rcases h.2 with ⟨e, _⟩ | ⟨g, cap, cur, e, _, hgb, _⟩
    · cases e
      simp [Conv.bytesToString, Sem.run_pure]
      rfl
    · cases e
      show (Conv.bytesToString (.slice (some ⟨g, 0, none⟩) 0 cp)).run Tryd.prog w = _
      rw [run_bytesToString w ⟨g, 0, none⟩ 0 cp [] (by
        have := run_loadCells_list (P := Tryd.prog) (w := w) ⟨g, 0, none⟩ [] (fun j v hv => by simp at hv)
        simpa using this)]
      simp
      rfl
/-- The bytes that Plain keeps. -/
def keptB (l : List Nat) : List Nat := l.filter fun x => decide (x % 8 < 6)
theorem bytes_take {s : ByteArray} {k : Nat} (h : k < s.size) : (s.data.toList.map UInt8.toNat).take (k + 1) = (s.data.toList.map UInt8.toNat).take k ++ [s[k].toNat] := by
  rw [List.take_succ_eq_append_getElem (by simpa using h)]
  congr 2
  simp only [List.getElem_map, Array.getElem_toList]; rfl
theorem kept_plain {l : List Nat} (h : ∀ x ∈ l, x < 256) : plainB ⟨((keptB l).map fun x => UInt8.ofNat x).toArray⟩ = true := by
  unfold plainB
  rw [List.all_eq_true]
  intro k hk
  have hk2 : k < (keptB l).length := by simpa [ByteArray.size] using hk
  simp only [decide_eq_true_eq]
  have h1 : (((keptB l).map fun x => UInt8.ofNat x).toArray)[k]? = some (UInt8.ofNat (keptB l)[k]) := by simp [hk2]
  rw [h1]
  have h2 := List.mem_filter.1 (List.getElem_mem hk2)
  have h3 := h _ h2.1
  simp only [Option.getD_some]
  have : (UInt8.ofNat (keptB l)[k]).toNat = (keptB l)[k] := by simp [Nat.mod_eq_of_lt h3]
  rw [this]
  simpa using h2.2
theorem bytes_small (s : ByteArray) : ∀ x ∈ s.data.toList.map UInt8.toNat, x < 256 := by
  intro x hx
  obtain ⟨y, _, rfl⟩ := List.mem_map.1 hx
  exact UInt8.toNat_lt y
theorem keptB_len (l : List Nat) : (keptB l).length ≤ l.length := List.length_filter_le _ _
/-- What Plain gives. -/
def PlainP (n N : Nat) (w : World) (e : Ending) (w' : World) : Prop := ∃ (p : Pat) (ks : Value), e = .returned (.agg #[.int .i64 p.op, .int .u64 (wd p.set 0), .int .u64 (wd p.set 1), .int .u64 (wd p.set 2), .int .u64 (wd p.set 3), .int .i64 p.lo, .int .i64 p.hi, ks]) ∧ Hid (Kids w' p.kids ks) ∧ p.size ≤ n ∧ Hid (p.good = true ∧ p.pln = true) ∧ Hid (Below N w w')
set_option linter.unusedSimpArgs false in
set_option maxHeartbeats 4000000 in
theorem rplain_any (s : ByteArray) (w : World) (hlen : s.size ≤ 900) :
    Calls Tryd.prog 9 #[.string s] w (PlainP (1 + s.size) w.heap.size w) := by
  obtain ⟨i0, hi0, hz0, hz1, hz2⟩ := info_parts infoU
  have HI := Lib.hid (And.intro hi0 (And.intro hz0 (And.intro hz1 hz2)))
  clear hi0 hz0 hz1 hz2
  obtain ⟨N, hN⟩ : ∃ N, w.heap.size = N := ⟨_, rfl⟩
  have hz : Box (w.alloc (.cells z8 36)) N z8 := Box.new _ _ hN
  have hb : Below N w (w.alloc (.cells z8 36)) := by rw [← hN]; exact (Below.refl _ _).alloc (Nat.le_refl _) _
  have hs1 : N + 1 ≤ (w.alloc (.cells z8 36)).heap.size := by simp [hN]
  have HZ := Lib.hid hz
  have HB := Lib.hid hb
  have HR := Lib.hid (show (w.alloc (.cells z8 36)).ownsRow (N + 1) 5 1 (.slice none 0 0) (keptB ((s.data.toList.map UInt8.toNat).take 0)).length (u8s (keptB ((s.data.toList.map UInt8.toNat).take 0))) from by simpa [keptB, u8s] using World.ownsRow_nil _ _ _ _)
  clear hz hb
  unfold z8 at *
  rw [hN]
  go_enter Tryd.func9, Tryd.ntmps9
  go_upto_region 1 with fail
  generalize w.alloc _ = w1 at *
  go_wp2
  go_loopw [3, 4] (fun v x wr => ∃ k : Nat, x = .int .i64 k ∧ k ≤ s.size ∧ N + 1 ≤ wr.heap.size ∧ Hid (wr.ownsRow (N + 1) 5 1 v (keptB ((s.data.toList.map UInt8.toNat).take k)).length (u8s (keptB ((s.data.toList.map UInt8.toNat).take k)))) ∧ Hid (Box wr N z8) ∧ Hid (Below N w wr)) (fun _ x _ => s.size - (intOf x).toNat)
  case atStart => exact ⟨0, rfl, Nat.zero_le _, hs1, HR, HZ, HB⟩
  case round =>
    clear HR HZ HB hs1
    obtain ⟨k, rfl, hk, hSz, HROW, HZ, HBW⟩ := hrel
    have hkl := keptB_len ((s.data.toList.map UInt8.toNat).take k)
    rw [List.length_take] at hkl
    by_cases hlt : k < s.size
    · have hd : decide ((k : Int) < s.size) = true := by simpa using hlt
      have HT := Lib.hid (bytes_take hlt)
      by_cases h6 : s[k].toNat % 8 < 6
      · have hd6 : decide ((s[k].toNat : Int) % 8 < 6) = true := decide_eq_true (by omega)
        have HU := Lib.hid (show keptB ((s.data.toList.map UInt8.toNat).take (k + 1)) = keptB ((s.data.toList.map UInt8.toNat).take k) ++ [s[k].toNat] by rw [HT.out]; simp [keptB, h6])
        obtain ⟨ln, hlne⟩ : ∃ ln, (keptB ((s.data.toList.map UInt8.toNat).take k)).length = ln := ⟨_, rfl⟩
        rw [hlne] at hkl HROW
        have HRA := Lib.hid (HROW.out.alloc (.cells #[.int .u8 s[k].toNat] 5))
        clear HT
        go_wp2_with (at_builtin; refine wpList_append_lies _ rfl _ _ 67 rfl (N + 1) 5 i0 (.int .u8 0) 1 1 Tryd.underlying67 HI.out.1 HI.out.2.1 HI.out.2.2.1 HI.out.2.2.2 rfl (by decide) u3 ln (u8s (keptB ((s.data.toList.map UInt8.toNat).take k))) rfl HRA.out ⟨wr.heap.size, 0, none⟩ 1 1 [.int .u8 s[k].toNat] rfl rfl (news_in (cs := #[.int .u8 s[k].toNat]) (heap_alloc_new wr _)) (by simp [Value.oneCell']) (by omega) (by unfold maxLen; omega) (by omega) (by simp; omega) (wr.heap.size + 1) (by simp) ?_; intro g9 cap2 w8 h2 h3 h4 h5; have h7 := new_one wr (.cells #[.int .u8 s[k].toNat] 5); have HP1 := Lib.hid ((HBW.out.trans (h7.mono (show N ≤ wr.heap.size by omega))).grown h3 (by have := h7.size; omega) (fun k hk => by have := (HROW.out.lt k hk).1; omega)); have HP2 := Lib.hid (show Box w8 N z8 from (h3.block N (by have := h7.size; omega) (fun e => by have := (HROW.out.lt N e.symm).1; omega)).trans ((h7.block N (by omega)).trans HZ.out)); have hsz8 := h3.size; have hsz7 := h7.size; have HP3 := Lib.hid h2; clear h2 h3 h4 h5 h7)
        go_roundw
        case rel => exact ⟨k + 1, num_succ k, by omega, by omega, by
          rw [HU.out, List.length_append, hlne]
          have := HP3.out
          simpa [u8s] using Lib.hid this, HP2, HP1⟩
        case measure => simp [intOf]; omega
      · have hd6 : decide ((s[k].toNat : Int) % 8 < 6) = false := decide_eq_false (by omega)
        have HU := Lib.hid (show keptB ((s.data.toList.map UInt8.toNat).take (k + 1)) = keptB ((s.data.toList.map UInt8.toNat).take k) by rw [HT.out]; simp [keptB]; omega)
        clear HT
        go_wp2
        go_roundw
        case rel => exact ⟨k + 1, num_succ k, by omega, hSz, by rw [HU.out]; exact HROW, HZ, HBW⟩
        case measure => simp [intOf]; omega
    · have hd : decide ((k : Int) < s.size) = false := by simpa using hlt
      have hks : k = s.size := by omega
      have hlall : (s.data.toList.map UInt8.toNat).take k = s.data.toList.map UInt8.toNat := List.take_of_length_le (by rw [List.length_map, Array.length_toList]; show s.size ≤ k; omega)
      rw [hlall] at HROW hkl
      have hcv := conv_row HROW.out
      have HPL := Lib.hid (kept_plain (bytes_small s))
      have hsz9 : (⟨((keptB (s.data.toList.map UInt8.toNat)).map fun x => UInt8.ofNat x).toArray⟩ : ByteArray).size = (keptB (s.data.toList.map UInt8.toNat)).length := by simp [ByteArray.size]
      generalize (⟨((keptB (s.data.toList.map UInt8.toNat)).map fun x => UInt8.ofNat x).toArray⟩ : ByteArray) = t at *
      have HMK := Lib.hid (make_any t wr (by omega))
      have hts : t.size ≤ s.size := by omega
      have hNw : N + 1 ≤ wr.heap.size := hSz
      clear hlall hks hkl HROW hsz9
      unfold z8 at HZ
      go_wp2_with (go_at_call 27; refine HMK.out.mono ?_; rintro e w5 ⟨p, ks, rfl, hk5, hs5, hg5, hb5⟩; obtain ⟨ak, ck, rfl⟩ := hk5.kids.len; have HK5 := Lib.hid hk5; have HG5 := Lib.hid hg5; have HB5 := Lib.hid (HBW.out.trans (hb5.mono (show N ≤ wr.heap.size by omega))); obtain ⟨c0, c1, c2, c3, c4, c5, c6, c7⟩ := Box.cells (HZ.out.below hb5); obtain ⟨f0, f1, f2, f3, f4, f5, f6, f7⟩ := Box.frees (HZ.out.below hb5); clear hk5 hg5 hb5)
      exact bodyPost_ret (v := (.agg #[.int .i64 p.op, .int .u64 (wd p.set 0), .int .u64 (wd p.set 1), .int .u64 (wd p.set 2), .int .u64 (wd p.set 3), .int .i64 p.lo, .int .i64 p.hi, .slice ak p.kids.length ck])) (by simp [results, Tryd.results9, go_sem, *]) rfl ⟨p, _, rfl, Lib.hid ((HK5.out.set8 (show N < wr.heap.size by omega) _ _ _ _ _ _ _ _).kids), by omega, Lib.hid ⟨HG5.out.1, HG5.out.2 HPL.out⟩, Lib.hid (below_set8 HB5.out (Nat.le_refl N) _ _ _ _ _ _ _ _)⟩
end Go.Proofs.YtpfhhdiipedklaaDoor
