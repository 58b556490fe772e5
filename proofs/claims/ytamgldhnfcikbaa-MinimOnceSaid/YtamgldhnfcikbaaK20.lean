/- Texts that a proof rests on: The contracts of math/bits.Mul64 and Mul, as slices.Repeat calls them; and of slices.Repeat: one number, so many times. | Mathematics of minim.Least: what is kept of a machine fits; its states are those that lead to an end; the program's walk and the reference's give one machine. | What minim.refine works on, as it lies: the partition, and the rows of the states that are split off. | The contract of minim.refine. | The contract of minim.classesOf, for a machine with states. | The contract of minim.classesOf, for a machine with states. -/
import Derived.Test.YtamgldhnfcikbaaK19
import Derived.Shelf.Bits.Mul64
import Derived.Laws.CopyOwn
set_option maxRecDepth 100000
namespace Go.Proofs.Ytamgldhnfcikbaa
open List (getElem_toArray getElem_cons_succ getElem_cons_zero setIfInBounds_toArray set_cons_zero set_cons_succ)
open Go.RowKit

theorem mul64_any (n : Nat) (hn : n ≤ 4096) (w : World) :
    Calls Try.prog 69 #[.int .u64 1, .int .u64 n] w fun e w' => e = .returned (.tuple #[.int .u64 0, .int .u64 n]) ∧ w' = w := by
  have h1 : bits .and .u64 (1 : Int) 4294967295 = 1 := by kernel_rfl
  have h2 : bits .and .u64 (n : Int) 4294967295 = (n : Int) := by
    rw [Mul64.maskN n (by omega), Nat.mod_eq_of_lt (by omega)]
  have h3 : (n : Int) / 4294967296 = 0 := by omega
  have h4 : IntKind.u64.wrap (n : Int) = (n : Int) := Mul64.wrapN n (by omega)
  have h5 : IntKind.u64.wrap (IntKind.u64.wrap (bits .and .u64 0 4294967295) / 4294967296) = 0 := by kernel_rfl
  go_enter Try.func69, Try.ntmps69
  go_wp2
  exact bodyPost_ret (v := .tuple #[.int .u64 0, .int .u64 n]) (by simp [results, Try.results69, go_sem, *]) rfl ⟨rfl, rfl⟩
theorem mul_any (n : Nat) (hn : n ≤ 4096) (w : World) :
    Calls Try.prog 59 #[.int .u64 1, .int .u64 n] w fun e w' => e = .returned (.tuple #[.int .u64 0, .int .u64 n]) ∧ w' = w := by
  have hc := mul64_any n hn w
  go_enter Try.func59, Try.ntmps59
  go_wp2_with (go_at_call 69; refine hc.mono ?_; rintro e w' ⟨rfl, hw⟩; subst hw)
  exact bodyPost_ret (v := .tuple #[.int .u64 0, .int .u64 n]) (by simp [results, Try.results59, go_sem, *]) rfl ⟨rfl, rfl⟩
def fillV (n c : Nat) (x : Int) : List Value := (List.range n).map fun i => .int .i64 (if i < c then x else 0)
theorem fillV_len (n c : Nat) (x : Int) : (fillV n c x).length = n := by simp [fillV]
theorem fillV_at (n c : Nat) (x : Int) (i : Nat) : (fillV n c x)[i]? = if i < n then some (.int .i64 (if i < c then x else 0)) else none := by
  by_cases h : i < n <;> simp [fillV, h]
theorem fillV_splice {n c d : Nat} (h : c + d ≤ n) (x : Int) : splice (fillV n c x) c (List.replicate d (.int .i64 x)) = fillV n (c + d) x := by
  apply List.ext_getElem?
  intro i
  unfold splice
  rw [fillV_at, List.getElem?_append, List.getElem?_append, List.length_take, fillV_len, List.length_replicate, List.getElem?_take, List.getElem?_replicate, List.getElem?_drop, fillV_at, fillV_at, show min c n = c by omega]
  by_cases h1 : i < c
  · rw [if_pos h1, if_pos h1, if_pos (by omega), if_pos h1, if_pos (by omega), if_pos (by omega)]
  · rw [if_neg h1]
    by_cases h2 : i - c < d
    · rw [if_pos h2, if_pos h2, if_pos (by omega), if_pos (by omega)]
    · rw [if_neg h2, show c + d + (i - c - d) = i by omega, if_neg h1, if_neg (show ¬ i < c + d by omega)]
theorem make_zeros {c : Int} {n : Nat} (x : Int) (hc : c = n) (hn : n ≤ 100000) (w : World) : (Instr.makeSlice 44 (.int .i64 c) (.int .i64 c)).run Try.prog w = .ok (.slice (some ⟨w.heap.size, 0, none⟩) n n) (w.alloc (.cells (fillV n 0 x).toArray 3)) := by
  subst hc
  obtain ⟨i, hi, hz, hs, hb⟩ := info_parts infoI
  have := run_make (P := Try.prog) w 44 3 i _ Try.underlying44 hi hz .i64 .i64 n n (by omega) (Int.le_refl _) (by rw [hb]; omega) (by omega)
  have hm : madeCells (Value.int .i64 0).cells n = (fillV n 0 x).toArray := by
    apply Array.ext_getElem?
    intro j
    rw [show (fillV n 0 x).toArray[j]? = (fillV n 0 x)[j]? from by simp, fillV_at]
    by_cases hj : j < n
    · rw [if_pos hj, Array.getElem?_eq_getElem (by simpa [size_madeCells] using hj)]
      simp [madeCells, Value.cells, Nat.mod_one]
    · rw [if_neg hj, Array.getElem?_eq_none (by simp [size_madeCells]; omega)]
  rw [← hm]
  simpa [hs] using this
theorem copy_fill {w wr : World} {N n c d dLen dCap sLen sCap : Nat} {x : Int} {p : Addr} (h : wr.heap[N]? = some (.cells (fillV n c x).toArray 3 (0, 0))) (hb : Below N w wr) (hd : d = Nat.min sLen dLen) (hcd : c + d ≤ n) (hsrc : ∀ j, j < d → wr.cell? (p.add j) = some (.int .i64 x)) :
    ∃ w2, (Builtin.copy_ #[44, 44] 3 #[.slice (some ⟨N, c, none⟩) dLen dCap, .slice (some p) sLen sCap]).run Try.prog wr = .ok (.int .i64 (d : Nat)) w2 ∧ w2.heap[N]? = some (.cells (fillV n (c + d) x).toArray 3 (0, 0)) ∧ Below N w w2 := by
  have hr := run_copy_row (P := Try.prog) wr 44 44 3 3 N c dLen dCap p sLen sCap (fillV n c x).toArray 3 (List.replicate d (.int .i64 x)) Try.underlying44 rfl h (by simpa using hd) (fun j v hj => by
    rw [List.getElem?_replicate] at hj
    split at hj
    · rename_i h1
      cases hj
      exact hsrc j h1
    · cases hj) (by rw [List.length_replicate, List.size_toArray, fillV_len]; exact hcd) (fun v hv => by rw [List.eq_of_mem_replicate hv]; rfl)
  rw [List.length_replicate] at hr
  refine ⟨_, hr, ?_, below_setRow hb (Nat.le_refl _) _⟩
  rw [setRow_heap wr N _ _ _ _ h, ← fillV_splice hcd x]
  simp [splice]
set_option linter.unusedSimpArgs false in
set_option maxHeartbeats 4000000 in
theorem repeat_any (n q o c : Nat) (x : Int) (w : World) (hx : w.cell? ⟨q, o, none⟩ = some (.int .i64 x)) (hn : n ≤ 4096) (h0 : 0 < n) :
    Calls Try.prog 42 #[.slice (some ⟨q, o, none⟩) (1 : Nat) c, .int .i64 n] w fun e w' => e = .returned (.slice (some ⟨w.heap.size, 0, none⟩) n n) ∧ Hid (w'.heap[w.heap.size]? = some (.cells (fillV n n x).toArray 3 (0, 0))) ∧ Hid (Below w.heap.size w w') := by
  obtain ⟨N, hN⟩ : ∃ N, w.heap.size = N := ⟨_, rfl⟩
  have hmul := mul_any n hn w
  have hmk := make_zeros (c := (n : Int)) (n := n) x rfl (by omega) w
  rw [hN] at hmk
  rw [hN]
  obtain ⟨W1, hW1⟩ : ∃ W1, w.alloc (.cells (fillV n 0 x).toArray 3) = W1 := ⟨_, rfl⟩
  have hblk : W1.heap[N]? = some (.cells (fillV n 0 x).toArray 3 (0, 0)) := by rw [← hW1, ← hN]; exact heap_alloc_new w _
  have HB1 : Hid (Below N w W1) := Lib.hid (by rw [← hW1, ← hN]; exact new_one w _)
  have hlt : q < N := by rw [← hN]; exact cell_lt hx
  have hx1 : W1.cell? ⟨q, o, none⟩ = some (.int .i64 x) := cell_below (by rw [hN]; exact HB1.out) hx
  rw [hW1] at hmk
  have hk0 : IntKind.u64.wrap (n : Int) = (n : Int) := Mul64.wrapN n (by omega)
  have hk1 : wrap64 (n : Int) = (n : Int) := by unfold wrap64; omega
  have hd1 : decide ((n : Int) < 0) = false := decide_eq_false (by omega)
  have hd2 : decide ((9223372036854775807 : Int) < n) = false := decide_eq_false (by omega)
  have mixed : Try.prog.follows .mixedOrders = true := by kernel_rfl
  go_enter Try.func42, Try.ntmps42
  go_upto_region 7 with (go_at_call 59; refine hmul.mono ?_; rintro e w' ⟨rfl, hw⟩; rw [hw]; clear hw)
  have hsrc0 : ∀ j, j < 1 → W1.cell? ((⟨q, o, none⟩ : Addr).add j) = some (.int .i64 x) := by
    intro j hj
    obtain rfl : j = 0 := by omega
    exact hx1
  obtain ⟨w3, hcp, hb3, hB3⟩ := copy_fill (x := x) (d := 1) (dLen := n) (dCap := n) (sLen := 1) (sCap := c) (p := ⟨q, o, none⟩) hblk HB1.out (by show 1 = min 1 n; omega) (by omega) hsrc0
  have HB3 := Lib.hid hB3
  have HK3 := Lib.hid hb3
  clear hblk HB1 hB3 hb3 hW1
  go_upto_region 8 with fail
  clear hcp hmk hx1 hmul hsrc0 hk0 hk1 hd1 hd2 hx hlt
  rw [Nat.zero_add] at HK3
  go_loopw [8] (fun z wr => ∃ k : Nat, z = .int .i64 k ∧ 1 ≤ k ∧ k ≤ n ∧ Hid (wr.heap[N]? = some (.cells (fillV n k x).toArray 3 (0, 0))) ∧ Hid (Below N w wr)) (fun z _ => n - (intOf z).toNat)
  case atStart => exact ⟨1, rfl, Nat.le_refl _, h0, HK3, HB3⟩
  case round =>
    clear HK3 HB3
    obtain ⟨k, rfl, hk1, hkn, HK, HB⟩ := hrel
    by_cases hlt : k < n
    · have hd : decide ((k : Int) < n) = true := decide_eq_true (by omega)
      have hne : ¬ n = k := by omega
      have hsrc : ∀ j, j < min k (n - k) → wr.drew.cell? ((⟨N, 0, none⟩ : Addr).add j) = some (.int .i64 x) := by
        intro j hj
        rw [show (⟨N, 0, none⟩ : Addr).add j = ⟨N, j, none⟩ from by rw [Addr.add]; simp; intro e; exact e.symm]
        refine (cell_of_row wr.drew N j _ _ _ HK.out).trans ?_
        rw [show (fillV n k x).toArray[j]? = (fillV n k x)[j]? from by simp, fillV_at, if_pos (by omega), if_pos (by omega)]
      obtain ⟨w5, hcp, hb5, hB5⟩ := copy_fill (w := w) (wr := wr.drew) (x := x) (c := k) (d := min k (n - k)) (dLen := n - k) (dCap := n - k) (sLen := k) (sCap := n) (p := ⟨N, 0, none⟩) HK.out HB.out.drew rfl (by omega) hsrc
      have HB5 := Lib.hid hB5
      have HK5 := Lib.hid hb5
      clear hB5 hb5 hsrc
      go_upto_region 9 with fail
      refine region_goes 9 10 rfl (fun _ => True) mixed trivial (fun hHeld => ?_)
      refine goes_take (i := 0) (v := ?gv0) rfl (by kernel_rfl) (by kernel_rfl) (by kernel_rfl) (by kernel_rfl) (fun _ _ _ h => h) (Or.inl ⟨by rfl, ?gy0⟩) trivial ?gr0
      case gy0 => (intro W9 _; first | (go_simp; done) | (go_simp; with_reducible rfl))
      simp only [Act.put, getElem_toArray, getElem_cons_succ, getElem_cons_zero, setIfInBounds_toArray, set_cons_zero, set_cons_succ]
      refine goes_take (i := 1) (v := ?gv1) rfl (by kernel_rfl) (by kernel_rfl) (by kernel_rfl) (by kernel_rfl) (fun _ _ _ h => h) (Or.inl ⟨by rfl, ?gy1⟩) trivial ?gr1
      case gy1 => (intro W9 _; first | (go_simp; done) | (go_simp; with_reducible rfl))
      simp only [Act.put, getElem_toArray, getElem_cons_succ, getElem_cons_zero, setIfInBounds_toArray, set_cons_zero, set_cons_succ]
      refine goes_take (i := 2) (v := ?gv2) rfl (by kernel_rfl) (by kernel_rfl) (by kernel_rfl) (by kernel_rfl) (fun _ _ _ h => h) (Or.inl ⟨by rfl, ?gy2⟩) trivial ?gr2
      case gy2 => (intro W9 _; first | (go_simp; done) | (go_simp; with_reducible rfl))
      simp only [Act.put, getElem_toArray, getElem_cons_succ, getElem_cons_zero, setIfInBounds_toArray, set_cons_zero, set_cons_succ]
      refine goes_take (i := 3) (v := ?gv3) rfl (by kernel_rfl) (by kernel_rfl) (by kernel_rfl) (by kernel_rfl) (fun _ _ _ h => h) (Or.inl ⟨by rfl, ?gy3⟩) trivial ?gr3
      case gy3 => (intro W9 _; first | (go_simp; done) | (go_simp; with_reducible rfl))
      simp only [Act.put, getElem_toArray, getElem_cons_succ, getElem_cons_zero, setIfInBounds_toArray, set_cons_zero, set_cons_succ]
      refine goes_take (i := 4) (v := ?gv4) rfl (by kernel_rfl) (by kernel_rfl) (by kernel_rfl) (by kernel_rfl) (fun _ _ _ h => h) (Or.inl ⟨by rfl, ?gy4⟩) trivial ?gr4
      case gy4 => (intro W9 _; first | (go_simp; done) | (go_simp; with_reducible rfl))
      simp only [Act.put, getElem_toArray, getElem_cons_succ, getElem_cons_zero, setIfInBounds_toArray, set_cons_zero, set_cons_succ]
      refine goes_take (i := 5) (v := ?gv5) rfl (by kernel_rfl) (by kernel_rfl) (by kernel_rfl) (by kernel_rfl) (fun _ _ _ h => h) (Or.inl ⟨by rfl, ?gy5⟩) trivial ?gr5
      case gy5 => (intro W9 _; first | (go_simp; done) | (go_simp; with_reducible rfl))
      simp only [Act.put, getElem_toArray, getElem_cons_succ, getElem_cons_zero, setIfInBounds_toArray, set_cons_zero, set_cons_succ]
      refine goes_take (i := 6) (v := ?gv6) rfl (by kernel_rfl) (by kernel_rfl) (by kernel_rfl) (by kernel_rfl) (fun _ _ _ h => h) (Or.inl ⟨by rfl, ?gy6⟩) trivial ?gr6
      case gy6 => (intro W9 _; first | (go_simp; done) | (go_simp; with_reducible rfl))
      simp only [Act.put, getElem_toArray, getElem_cons_succ, getElem_cons_zero, setIfInBounds_toArray, set_cons_zero, set_cons_succ]
      refine goes_one (i := 7) (by kernel_rfl) rfl (fun K9 hK9 => ?_)
      go_simp
      refine hK9.out _ _ (fun _ => trivial) (fun _ => ?_)
      clear hK9 K9
      refine goes_one (i := 8) (by kernel_rfl) rfl (fun K9 hK9 => ?_)
      go_simp
      refine hK9.out _ _ (fun _ => trivial) (fun _ => ?_)
      clear hK9 K9
      refine goes_one (i := 9) (by kernel_rfl) rfl (fun K9 hK9 => ?_)
      go_simp
      refine hK9.out _ _ (fun _ => trivial) (fun _ => ?_)
      clear hK9 K9
      refine goes_done (by kernel_rfl) ?_ _
      go_wp2
      obtain ⟨d, hdd⟩ : ∃ d, min k (n - k) = d := ⟨_, rfl⟩
      have hd1 : 1 ≤ d := by omega
      have hd2 : k + d ≤ n := by omega
      rw [hdd] at HK5 ⊢
      have hwr : IntKind.i64.wrap ((k : Int) + (d : Nat)) = ((k + d : Nat) : Int) := by rw [IntKind.wrap_i64]; omega
      rw [hwr]
      exact ⟨⟨k + d, rfl, by omega, hd2, HK5, HB5⟩, by simp [intOf]; omega⟩
    · have hd : decide ((k : Int) < n) = false := decide_eq_false (by omega)
      obtain rfl : k = n := by omega
      have hd' : decide ((k : Int) < k) = false := hd
      go_wp2
      exact bodyPost_ret (v := .slice (some ⟨N, 0, none⟩) k k) (by simp [results, Try.results42, go_sem, *]) rfl ⟨rfl, HK, HB⟩
end Go.Proofs.Ytamgldhnfcikbaa
set_option maxRecDepth 100000
namespace Go.Proofs.Ytamgldhnfcikbaa
open Go.RowKit

def Fits (m : List Sta) : Prop := ∀ s (h : s < m.length), fitsB m.length m[s].arcs = true ∧ ∀ a ∈ m[s].arcs, a.hi < 256
theorem Fits.pair {m : List Sta} (h : Fits m) {s : Nat} (hs : s < m.length) : m[s].arcs.Pairwise (fun x y => x.hi < y.lo) := by
  rw [List.pairwise_iff_getElem]
  intro i j hi hj hij
  exact fits_rise (h s hs).1 j hj i hij
theorem Fits.ok {m : List Sta} (h : Fits m) {s : Nat} (hs : s < m.length) {a : Arc3} (ha : a ∈ m[s].arcs) : a.lo ≤ a.hi ∧ 0 ≤ a.dest ∧ a.dest < m.length ∧ a.hi < 256 := by
  obtain ⟨i, hi, rfl⟩ := List.getElem_of_mem ha
  obtain ⟨h1, h2, h3⟩ := fits_arc (h s hs).1 hi
  exact ⟨h1, h2, h3, (h s hs).2 _ ha⟩
theorem nextS_at {m : List Sta} {s : Nat} (hs : s < m.length) (b : Nat) : nextS m (s : Nat) b = firstTo m[s].arcs b := by
  unfold nextS
  rw [dif_pos ⟨by omega, by simpa using hs⟩]
  simp
theorem Fits.next {m : List Sta} (h : Fits m) (s : Nat) (hs : s < m.length) (b : Nat) (_ : b < 256) : nextS m (s : Nat) b < 0 ∨ ∃ y : Nat, y < m.length ∧ nextS m (s : Nat) b = y := by
  rw [nextS_at hs]
  rcases firstTo_in m[s].arcs b with e | ⟨a, ha, _, e⟩
  · rw [e]; exact .inl (by omega)
  · obtain ⟨_, h2, h3, _⟩ := h.ok hs ha
    exact .inr ⟨a.dest.toNat, by omega, by rw [e]; omega⟩
theorem Fits.some {m : List Sta} (h : Fits m) {s : Nat} (hs : s < m.length) {a : Arc3} (ha : a ∈ m[s].arcs) : nextS m (s : Nat) a.lo = (a.dest.toNat : Nat) ∧ a.lo < 256 := by
  obtain ⟨h1, h2, h3, h4⟩ := h.ok hs ha
  have := first_of (h s hs).1 (b := a.lo) ha (by unfold Arc3.has; simp; exact h1)
  rw [nextS_at hs, this]
  exact ⟨by omega, by omega⟩
theorem acc_at {m : List Sta} {s : Nat} (hs : s < m.length) : accS m (s : Nat) = m[s].acc := by
  unfold accS
  rw [if_pos (by omega)]
  simp [hs]
theorem Fits.leads {m : List Sta} (h : Fits m) {s : Nat} (hs : s < m.length) : Leads m s ↔ ¬ DeadS m (s : Nat) := by
  constructor
  · intro hl
    induction hl with
    | acc hi ha => exact fun hd => ha (by have := hd [] (by simp); rw [← acc_at hi]; exact this)
    | @step i hi a ha hd ih =>
      intro hD
      obtain ⟨e, hb⟩ := h.some hi ha
      have := hD.next hb
      rw [e] at this
      exact ih (by have := h.ok hi ha; omega) this
  · intro hd
    refine Classical.byContradiction fun hn => hd ?_
    have key : ∀ (bs : List Nat), (∀ b ∈ bs, b < 256) → ∀ s : Nat, s < m.length → ¬ Leads m s → accS m (runFrom m (s : Nat) bs) = 0 := by
      intro bs
      induction bs with
      | nil =>
        intro _ s hs hn
        show accS m (s : Nat) = 0
        refine Classical.byContradiction fun e => hn (.acc hs ?_)
        rwa [← acc_at hs]
      | cons b bs ih =>
        intro hb s hs hn
        show accS m (runFrom m (nextS m (s : Nat) b) bs) = 0
        rw [nextS_at hs]
        rcases firstTo_in m[s].arcs b with e | ⟨a, ha, _, e⟩
        · rw [e]; exact dead_none m bs (-1) (by omega)
        · obtain ⟨_, h2, h3, _⟩ := h.ok hs ha
          have h5 := ih (fun x hx => hb x (List.mem_cons_of_mem _ hx)) a.dest.toNat (by omega) (fun hl => hn (.step hs ha hl))
          rw [e]
          rwa [Int.toNat_of_nonneg h2] at h5
    exact fun bs hb => key bs hb s hs hn
def Used (m : List Sta) (u : Nat → Bool) : Prop := ∀ s, s < m.length → (u s = true ↔ Leads m s ∧ Come m s)
theorem Used.dead {m : List Sta} {u : Nat → Bool} (hu : Used m u) (h : Fits m) (s : Nat) (hs : s < m.length) (k : u s = true) (b : Nat) (_ : b < 256) (y : Nat) (e : nextS m (s : Nat) b = y) (hy : u y = false) : DeadS m (y : Nat) := by
  have hc := ((hu s hs).1 k).2
  rw [nextS_at hs] at e
  rcases firstTo_in m[s].arcs b with e2 | ⟨a, ha, _, e2⟩
  · omega
  · obtain ⟨_, h2, h3, _⟩ := h.ok hs ha
    have hcy := Come.step hs ha hc
    rw [show a.dest.toNat = y by omega] at hcy
    refine Classical.byContradiction fun hn => ?_
    have := (hu y (by omega)).2 ⟨(h.leads (by omega)).2 hn, hcy⟩
    rw [hy] at this; cases this
theorem Used.alike {m : List Sta} {u : Nat → Bool} (hu : Used m u) (h : Fits m) {s : Nat} (k : u s = true) (hs : s < m.length) : AlikeS (trimS u m) m (keptN u s : Nat) (s : Nat) :=
  trimS_alike (fun _ hs => h.pair hs) h.next (fun _ hs k _ hb _ e hy => hu.dead h _ hs k _ hb _ e hy) k hs
theorem trim_from {m : List Sta} {u : Nat → Bool} {x : Nat} (hx : x < (trimS u m).length) : ∃ s, s < m.length ∧ u s = true ∧ keptN u s = x := by
  rw [trimS_len] at hx
  have hm := List.getElem_mem hx
  obtain ⟨hs, k⟩ := keptL_mem.1 hm
  refine ⟨_, hs, k, ?_⟩
  have h1 := keptL_at k m.length hs
  have hlt := keptN_lt k hs
  rw [List.getElem?_eq_getElem hlt] at h1
  have hnd : (keptL u m.length).Nodup := List.nodup_range.filter _
  exact (List.getElem_inj (h₀ := hlt) (h₁ := hx) hnd).1 (Option.some.inj h1)
theorem Used.alive {m : List Sta} {u : Nat → Bool} (hu : Used m u) (h : Fits m) (x : Nat) (hx : x < (trimS u m).length) : ¬ DeadS (trimS u m) (x : Nat) := by
  obtain ⟨s, hs, k, rfl⟩ := trim_from hx
  exact fun hd => (h.leads hs).1 ((hu s hs).1 k).1 ((hu.alike h k hs).dead.1 hd)
theorem keptN_inj {u : Nat → Bool} {s t : Nat} (hs : u s = true) (ht : u t = true) (e : keptN u s = keptN u t) : s = t := by
  have h1 := keptL_at hs (s + t + 1) (by omega)
  have h2 := keptL_at ht (s + t + 1) (by omega)
  rw [e, h2] at h1
  exact (Option.some.inj h1).symm
def Rise (x y : Arc3) : Prop := x.hi < y.lo ∧ (x.hi + 1 = y.lo → y.dest ≠ x.dest)
theorem fits_pair {n : Nat} {l : List Arc3} (h : fitsB n l = true) : l.Pairwise Rise := by
  rw [List.pairwise_iff_getElem]
  intro i j hi hj hij
  have h1 := fits_rise h j hj i hij
  refine ⟨h1, fun e => ?_⟩
  by_cases e2 : j = i + 1
  · subst e2
    have h2 := fits_iff.1 h (i + 1) hj
    unfold fitAt at h2
    rw [Bool.and_eq_true, prevOk_succ (by omega)] at h2
    have h3 := h2.2
    unfold behindB at h3
    simp only [Bool.or_eq_true, Bool.and_eq_true, decide_eq_true_eq] at h3
    rcases h3 with h3 | h3
    · omega
    · exact h3.2
  · have h2 := fits_rise h (i + 1) (by omega) i (by omega)
    have h3 := fits_rise h j hj (i + 1) (by omega)
    have h4 := (fits_arc h (i := i + 1) (by omega)).1
    omega
theorem fits_of {n : Nat} {l : List Arc3} (h1 : ∀ a ∈ l, a.lo ≤ a.hi ∧ 0 ≤ a.dest ∧ a.dest < n) (h2 : l.Pairwise Rise) : fitsB n l = true := by
  rw [fits_iff]
  intro i hi
  obtain ⟨a1, a2, a3⟩ := h1 _ (List.getElem_mem hi)
  unfold fitAt
  rw [Bool.and_eq_true]
  refine ⟨by unfold arcOk; simp [a1, a2, a3], ?_⟩
  cases i with
  | zero => exact prevOk_zero _ _
  | succ i =>
    rw [prevOk_succ (by omega)]
    obtain ⟨b1, b2⟩ := (List.pairwise_iff_getElem.1 h2) i (i + 1) (by omega) hi (by omega)
    unfold behindB
    simp only [Bool.or_eq_true, Bool.and_eq_true, decide_eq_true_eq]
    by_cases e : l[i].hi + 1 = l[i + 1].lo
    · exact .inr ⟨e, b2 e⟩
    · exact .inl (by omega)
theorem trimA_mem {u : Nat → Bool} {n : Nat} {l : List Arc3} {a : Arc3} (h : a ∈ trimA u n l) : ∃ a0 ∈ l, a.lo = a0.lo ∧ a.hi = a0.hi ∧ u a0.dest.toNat = true ∧ a0.dest < n ∧ 0 ≤ a0.dest ∧ a.dest = (keptN u a0.dest.toNat : Nat) := by
  unfold trimA at h
  rw [List.mem_filter, decide_eq_true_eq] at h
  obtain ⟨h1, h2⟩ := h
  obtain ⟨a0, h3, rfl⟩ := List.mem_map.1 h1
  obtain ⟨k1, k2, k3⟩ := keptD_neg h2
  refine ⟨a0, h3, rfl, rfl, k3, k2, k1, ?_⟩
  show keptD u n a0.dest = _
  unfold keptD
  rw [if_pos ⟨k1, k2, k3⟩]
theorem trimA_rise {u : Nat → Bool} {n : Nat} {l : List Arc3} (h : l.Pairwise Rise) : (trimA u n l).Pairwise Rise := by
  unfold trimA
  have h1 : (l.map fun a => (⟨a.lo, a.hi, keptD u n a.dest⟩ : Arc3)).Pairwise fun x y => x.dest ≠ -1 → y.dest ≠ -1 → Rise x y := by
    rw [List.pairwise_map]
    refine h.imp fun {x y} hxy hx hy => ⟨hxy.1, fun e e2 => ?_⟩
    obtain ⟨k1, k2, k3⟩ := keptD_neg hx
    obtain ⟨j1, j2, j3⟩ := keptD_neg hy
    have e3 : keptD u n y.dest = keptD u n x.dest := e2
    unfold keptD at e3
    rw [if_pos ⟨j1, j2, j3⟩, if_pos ⟨k1, k2, k3⟩] at e3
    have := keptN_inj j3 k3 (by omega)
    exact hxy.2 e (by omega)
  refine List.Pairwise.imp_of_mem ?_ (h1.filter _)
  intro x y hx hy hxy
  rw [List.mem_filter, decide_eq_true_eq] at hx hy
  exact hxy hx.2 hy.2
theorem trim_arcs {m : List Sta} {u : Nat → Bool} {s : Nat} (k : u s = true) (hs : s < m.length) (hx : keptN u s < (trimS u m).length) : (trimS u m)[keptN u s] = ⟨accS m (s : Nat), trimA u m.length m[s].arcs⟩ := by
  have h1 := trimS_at k hs
  rw [List.getElem?_eq_getElem hx] at h1
  exact Option.some.inj h1
theorem trim_fits {m : List Sta} (u : Nat → Bool) (h : Fits m) : Fits (trimS u m) := by
  intro x hx
  obtain ⟨s, hs, k, rfl⟩ := trim_from hx
  rw [trim_arcs k hs hx]
  refine ⟨fits_of (fun a ha => ?_) (trimA_rise (fits_pair (h s hs).1)), fun a ha => ?_⟩
  · obtain ⟨a0, b1, b2, b3, b4, b5, b6, b7⟩ := trimA_mem ha
    have := h.ok hs b1
    have h2 := keptN_lt b4 (n := m.length) (by omega)
    rw [trimS_len, b7]
    omega
  · obtain ⟨a0, b1, b2, b3, _⟩ := trimA_mem ha
    have := h.ok hs b1
    omega
def nextP (m : List Sta) (s b : Nat) : Option Nat := if 0 ≤ nextS m (s : Nat) b then some (nextS m (s : Nat) b).toNat else none
def nextR (m : List Sta) (A : Int → Int) (s b : Nat) : Option Nat := if 0 ≤ A (nextS m (s : Nat) b) then some (A (nextS m (s : Nat) b)).toNat else none
def LR (k m : List Sta) (s t : Nat) : Prop := s < k.length ∧ t < m.length ∧ AlikeS k m (s : Nat) (t : Nat) ∧ ∀ j : Nat, j < t → ¬ AlikeS m m (j : Nat) (t : Nat)
theorem LR.key {k m : List Sta} {C : Nat → Nat} (hC : ∀ s t, s < k.length → t < k.length → (C s = C t ↔ AlikeS k k (s : Nat) (t : Nat))) (s t s' t' : Nat) (h : LR k m s t) (h' : LR k m s' t') : C s = C s' ↔ id t = id t' := by
  obtain ⟨a1, a2, a3, a4⟩ := h
  obtain ⟨b1, b2, b3, b4⟩ := h'
  rw [hC s s' a1 b1, id, id, alias_same (m := m) (s := (t : Nat)) (t := (t' : Nat)) (AlikeS.refl m _) a4 (AlikeS.refl m _) b4]
  exact ⟨fun e => a3.symm.trans (e.trans b3), fun e => a3.trans (e.trans b3.symm)⟩
theorem LR.next {m : List Sta} {u : Nat → Bool} (hu : Used m u) (h : Fits m) {D : Nat → Nat → Bool} (hD : TableD m D) {A : Int → Int} (hA : ∀ s : Int, s < m.length → AliasP m.length D s (A s)) (s t : Nat) (hR : LR (trimS u m) m s t) (b : Nat) (hb : b < 256) :
    (nextP (trimS u m) s b = none ∧ nextR m A t b = none) ∨ ∃ x y, nextP (trimS u m) s b = some x ∧ nextR m A t b = some y ∧ LR (trimS u m) m x y := by
  obtain ⟨a1, a2, a3, a4⟩ := hR
  have hg := a3.next hb
  have hr : nextS m (t : Nat) b < m.length := by
    rcases h.next t a2 b hb with e | ⟨y, e1, e2⟩ <;> omega
  unfold nextP nextR
  rcases alias_means hD hr (hA _ hr) with ⟨hd, e⟩ | ⟨hd, i, e, hi, h2, h3⟩
  · refine .inl ⟨?_, by rw [e]; rfl⟩
    rw [if_neg]
    intro h0
    rcases (trim_fits u h).next s a1 b hb with e2 | ⟨x, hx, e2⟩
    · omega
    · rw [e2] at hg
      exact hu.alive h x hx (hg.dead.2 hd)
  · rcases (trim_fits u h).next s a1 b hb with e2 | ⟨x, hx, e2⟩
    · exact absurd (hg.dead.1 (dead_below e2)) hd
    · refine .inr ⟨x, i, by rw [e2, if_pos (by omega)]; simp, by rw [e, if_pos (by omega)]; simp, hx, hi, ?_, fun j hj e3 => h3 j hj (e3.trans h2)⟩
      rw [e2] at hg
      exact hg.trans h2.symm
theorem least_both {m : List Sta} {u : Nat → Bool} (hu : Used m u) (h : Fits m) (hm : 0 < m.length) (h0 : u 0 = true) {C : Nat → Nat} (hC : ∀ s t, s < (trimS u m).length → t < (trimS u m).length → (C s = C t ↔ AlikeS (trimS u m) (trimS u m) (s : Nat) (t : Nat)))
    {D : Nat → Nat → Bool} (hD : TableD m D) {A : Int → Int} (hA : ∀ s : Int, s < m.length → AliasP m.length D s (A s)) {i j t0 : Nat} (ht : A 0 = (t0 : Nat))
    (hi : (walkK (nextP (trimS u m)) C 0 i).length = i) (hj : (walkK (nextR m A) id t0 j).length = j) :
    leastK (accAt (trimS u m)) (nextP (trimS u m)) C (walkK (nextP (trimS u m)) C 0 i) = leastK (accAt m) (nextR m A) id (walkK (nextR m A) id t0 j) := by
  have hl : LR (trimS u m) m 0 t0 := by
    have hz : keptN u 0 = 0 := rfl
    have ha := hu.alike h h0 hm
    rw [hz] at ha
    have hlt := keptN_lt h0 hm
    rw [hz, ← trimS_len] at hlt
    rcases alias_means hD (s := ((0 : Nat) : Int)) (by omega) (hA _ (by omega)) with ⟨_, e⟩ | ⟨_, i, e, hi, h2, h3⟩
    · have e : A 0 = -1 := e
      omega
    · have e : A 0 = (i : Nat) := e
      obtain rfl : t0 = i := by omega
      exact ⟨hlt, hi, ha.trans h2.symm, fun j hj e3 => h3 j hj (e3.trans h2)⟩
  have hk := LR.key (m := m) hC
  have hn := LR.next hu h hD hA
  obtain rfl := Pairs.ends hk hn hl hi hj
  exact least_same hk hn (fun s t hR => hR.2.2.1.acc) (Pairs.walk hk hn hl i)
theorem Used.none {m : List Sta} {u : Nat → Bool} (hu : Used m u) (h : Fits m) (hm : 0 < m.length) : u 0 = true ↔ ¬ DeadS m ((0 : Nat) : Int) := by
  rw [hu 0 hm, h.leads hm]
  exact ⟨fun h => h.1, fun h => ⟨h, .first hm⟩⟩
theorem Used.first {m : List Sta} {u : Nat → Bool} (hu : Used m u) {s : Nat} (hs : s < m.length) (k : u s = true) : u 0 = true := by
  obtain ⟨hl, hc⟩ := (hu s hs).1 k
  have key : ∀ s, Come m s → Leads m s → Leads m 0 := by
    intro s hc
    induction hc with
    | first _ => exact id
    | step hi ha _ ih => exact fun hl => ih (.step hi ha hl)
  exact (hu 0 (by omega)).2 ⟨key s hc hl, .first (by omega)⟩
end Go.Proofs.Ytamgldhnfcikbaa
set_option maxRecDepth 100000
namespace Go.Proofs.Ytamgldhnfcikbaa
open Go.RowKit

theorem PA.kept {w w' : World} {bp B n k go gp gc gs co cp cc cs : Nat} {O P C : Nat → Nat} {sp : Nat → Nat × Nat × Nat} (h : PA w bp B n k go gp gc gs co cp cc cs O P C sp) (hk : ∀ q, OwnQ bp go gp gc gs q → w'.heap[q]? = w.heap[q]?) : PA w' bp B n k go gp gc gs co cp cc cs O P C sp :=
  ⟨(hk bp (.inl rfl)).trans h.blk, row_same h.ro fun q e => by cases e; exact hk go (.inr (.inl rfl)), row_same h.rp fun q e => by cases e; exact hk gp (.inr (.inr (.inl rfl))),
    row_same h.rc fun q e => by cases e; exact hk gc (.inr (.inr (.inr (.inl rfl)))), row_same h.rs fun q e => by cases e; exact hk gs (.inr (.inr (.inr (.inr rfl)))), h.ne, h.far⟩
theorem PA.under {w : World} {bp B n k go gp gc gs co cp cc cs : Nat} {O P C : Nat → Nat} {sp : Nat → Nat × Nat × Nat} (h : PA w bp B n k go gp gc gs co cp cc cs O P C sp) {q : Nat} (hq : OwnQ bp go gp gc gs q) : q < w.heap.size := by
  rcases hq with rfl | rfl | rfl | rfl | rfl
  · exact lt_of_block h.blk
  · exact (h.ro.lt _ rfl).2
  · exact (h.rp.lt _ rfl).2
  · exact (h.rc.lt _ rfl).2
  · exact (h.rs.lt _ rfl).2
theorem row_cut {w : World} {B sz n c : Nat} {e : TypeId} {a : Option Addr} {xs : List Value} (h : w.ownsRow B e sz (.slice a n c) n xs) : w.ownsRow B e sz (.slice a 0 c) 0 [] := by
  refine ⟨by simp, ?_⟩
  rcases h.2 with ⟨e1, _⟩ | ⟨g, cap, cur, e1, h2, h3, _, h5, h6, _⟩
  · cases e1; exact .inl ⟨rfl, rfl⟩
  · cases e1
    exact .inr ⟨g, c, cur, rfl, h2, h3, Nat.zero_le _, h5, h6, by simp⟩
theorem RR.cut {α : Type} {w : World} {e t : TypeId} {sz b B n i c : Nat} {a : Option Addr} {g : α → List Value} {f : Nat → List α} {V : Nat → Value} (h : RR w e t sz b B n g f V) (hi : i < n) (hV : V i = .slice a (f i).length c) :
    RR (w.setCell ⟨b, i, none⟩ (.slice a 0 c)) e t sz b B n g (upd f i []) (upd V i (.slice a 0 c)) := by
  have hown : ∀ j, (upd V i (.slice a 0 c) j).ownBlock = (V j).ownBlock := fun j => by
    by_cases e : j = i
    · subst e; rw [upd_same, hV]; cases a <;> rfl
    · rw [upd_other V _ e]
  refine ⟨?_, fun j hj => ?_, fun j1 j2 k h1 h2 e1 e2 => h.apart j1 j2 k h1 h2 ((hown j1).symm.trans e1) ((hown j2).symm.trans e2), h.far, by simp; exact h.big⟩
  · rw [setCell_block h.blk, slices_set (upd_same V i _) fun j _ hne => (upd_other V _ hne).symm]
  · have hk : ∀ k, (upd V i (.slice a 0 c) j).ownBlock = some k → (w.setCell ⟨b, i, none⟩ (.slice a 0 c)).heap[k]? = w.heap[k]? := fun k ek => by
      rw [hown j] at ek
      have := ((h.own j hj).lt k ek).1
      have := h.far
      exact Below.heap_setCell _ _ _ _ (show k ≠ b by omega)
    by_cases e : j = i
    · subst e
      rw [upd_same, upd_same] at *
      have := h.own j hj
      rw [hV] at this
      exact row_same (row_cut this) hk
    · rw [upd_other V _ e] at *
      rw [upd_other f _ e]
      exact row_same (h.own j hj) hk
def EntIn (w : World) (u : Value) (l : List (Nat × Nat)) : Prop := ∃ a c, u = .slice a l.length c ∧ ∀ i (h : i < l.length), ∃ b o, a = some ⟨b, o, none⟩ ∧ w.cell? ⟨b, o + i * 2, none⟩ = some (.int .i64 (l[i].1 : Nat)) ∧ w.cell? ⟨b, o + i * 2 + 1, none⟩ = some (.int .i64 (l[i].2 : Nat))
def EntsIn (w : World) (v : Value) (n : Nat) (E : List (Nat × Nat × Nat)) : Prop := ∃ b, v = .slice (some ⟨b, 0, none⟩) n n ∧ ∀ t, t < n → ∃ u, w.cell? ⟨b, t, none⟩ = some u ∧ EntIn w u (sel E t)
structure RSt (w wr : World) (bp B n cnt k bf go gp gc gs gs' co cp cc cs : Nat) (O P C : Nat → Nat) (sp : Nat → Nat × Nat × Nat) (F : Nat → List Nat) (V : Nat → Value) : Prop where
  pa : PA wr bp B n k go gp gc gs' co cp cc cs O P C sp
  rr : RR wr 3 44 1 bf (bf + 1) cnt gN F V
  own : ∀ q, q < cnt → (V q).ownBlock ≠ some gs'
  sg : gs' = gs ∨ bf < gs'
  oth : Oth w wr (OwnQ bp go gp gc gs)
  size : w.heap.size = bf
  lt : ∀ q, OwnQ bp go gp gc gs q → q < bf
theorem RSt.far {w wr : World} {bp B n cnt k bf go gp gc gs gs' co cp cc cs : Nat} {O P C : Nat → Nat} {sp : Nat → Nat × Nat × Nat} {F : Nat → List Nat} {V : Nat → Value} (h : RSt w wr bp B n cnt k bf go gp gc gs gs' co cp cc cs O P C sp F V) {q : Nat} (hq : OwnQ bp go gp gc gs' q) :
    q ≠ bf ∧ ∀ i, i < cnt → (V i).ownBlock ≠ some q := by
  have key : q < bf ∨ (q = gs' ∧ bf < gs') := by
    rcases hq with e | e | e | e | e
    · exact .inl (h.lt q (.inl e))
    · exact .inl (h.lt q (.inr (.inl e)))
    · exact .inl (h.lt q (.inr (.inr (.inl e))))
    · exact .inl (h.lt q (.inr (.inr (.inr (.inl e)))))
    · rcases h.sg with e2 | e2
      · exact .inl (h.lt q (.inr (.inr (.inr (.inr (e.trans e2))))))
      · exact .inr ⟨e, e2⟩
  refine ⟨by omega, fun i hi e => ?_⟩
  have h1 := ((h.rr.own i hi).lt q e).1
  rcases key with h2 | ⟨rfl, h2⟩
  · omega
  · exact h.own i hi e
theorem RSt.below {w wr w' : World} {bp B n cnt k bf go gp gc gs gs' co cp cc cs : Nat} {O P C : Nat → Nat} {sp : Nat → Nat × Nat × Nat} {F : Nat → List Nat} {V : Nat → Value} (h : RSt w wr bp B n cnt k bf go gp gc gs gs' co cp cc cs O P C sp F V) (hb : Below wr.heap.size wr w') :
    RSt w w' bp B n cnt k bf go gp gc gs gs' co cp cc cs O P C sp F V :=
  ⟨h.pa.kept fun q hq => hb.block q (h.pa.under hq), h.rr.below hb, h.own, h.sg, h.oth.trans (Oth.of_below hb) (fun _ _ hn => hn), h.size, h.lt⟩
theorem RSt.cut {w wr : World} {bp B n cnt k bf go gp gc gs gs' co cp cc cs i c : Nat} {a : Option Addr} {O P C : Nat → Nat} {sp : Nat → Nat × Nat × Nat} {F : Nat → List Nat} {V : Nat → Value} (h : RSt w wr bp B n cnt k bf go gp gc gs gs' co cp cc cs O P C sp F V) (hi : i < cnt) (hV : V i = .slice a (F i).length c) :
    RSt w (wr.setCell ⟨bf, i, none⟩ (.slice a 0 c)) bp B n cnt k bf go gp gc gs gs' co cp cc cs O P C sp (upd F i []) (upd V i (.slice a 0 c)) := by
  refine ⟨h.pa.kept fun q hq => Below.heap_setCell _ _ _ _ (h.far hq).1, h.rr.cut hi hV, fun q hq e => ?_, h.sg, h.oth.trans (Oth.of_set wr (S := fun q => bf ≤ q) _ _ (Nat.le_refl _)) (fun q hq _ => by rw [h.size] at hq; omega), h.size, h.lt⟩
  by_cases e2 : q = i
  · subst e2
    rw [upd_same] at e
    refine h.own q hq ?_
    rw [hV]; cases a <;> exact e
  · rw [upd_other V _ e2] at e
    exact h.own q hq e
theorem RSt.push {w wr w8 : World} {bp B n cnt k bf go gp gc gs gs' co cp cc cs i x : Nat} {v : Value} {O P C : Nat → Nat} {sp : Nat → Nat × Nat × Nat} {F F' : Nat → List Nat} {V : Nat → Value} (h : RSt w wr bp B n cnt k bf go gp gc gs gs' co cp cc cs O P C sp F V) (hi : i < cnt)
    (hg : wr.grownBy w8 (V i).ownBlock) (hr : w8.ownsRow (bf + 1) 3 1 v ((F i).length + 1) ((F i).flatMap gN ++ gN x)) (hv : (V i).ownBlock = v.ownBlock ∨ ∃ q, v.ownBlock = some q ∧ wr.heap.size ≤ q) (hF : F' i = F i ++ [x]) (hF2 : ∀ j, j ≠ i → F' j = F j) :
    RSt w (w8.setCell ⟨bf, i, none⟩ v) bp B n cnt k bf go gp gc gs gs' co cp cc cs O P C sp F' (upd V i v) := by
  have hw : w.heap.size = bf := h.size
  refine ⟨h.pa.kept fun q hq => ?_, h.rr.push hi hg hr hv (upd_same V i v) (fun j hj => upd_other V v hj) hF hF2, fun q hq e => ?_, h.sg, ?_, h.size, h.lt⟩
  · rw [Below.heap_setCell _ _ _ _ (h.far hq).1]
    exact hg.block q (h.pa.under hq) fun e => (h.far hq).2 i hi e.symm
  · have hlt := h.pa.under (q := gs') (.inr (.inr (.inr (.inr rfl))))
    by_cases e2 : q = i
    · subst e2
      rw [upd_same] at e
      rcases hv with hv | ⟨b, hv, hb⟩
      · exact h.own q hq (hv.trans e)
      · rw [hv] at e; cases e; omega
    · rw [upd_other V _ e2] at e
      exact h.own q hq e
  · refine (h.oth.trans (Oth.of_gb (S := fun q => bf ≤ q) hg fun b e => ?_) (fun q hq _ => by omega)).trans (Oth.of_set w8 (S := fun q => bf ≤ q) _ _ (Nat.le_refl _)) (fun q hq _ => by omega)
    have := ((h.rr.own i hi).lt b e).1
    show bf ≤ b
    omega
theorem RSt.ints {w wr : World} {bp B n cnt k bf go gp gc gs gs' co cp cc cs i : Nat} {O P C : Nat → Nat} {sp : Nat → Nat × Nat × Nat} {F : Nat → List Nat} {V : Nat → Value} (h : RSt w wr bp B n cnt k bf go gp gc gs gs' co cp cc cs O P C sp F V) (hi : i < cnt) (w' : World) (ho : Oth wr w' (OwnQ bp go gp gc gs')) : IntsIn w' (V i) (F i) := by
  have h1 := h.rr.own i hi
  have h2 : w'.ownsRow (bf + 1) 3 1 (V i) (F i).length ((F i).flatMap gN) := row_same h1 fun q e => ho.block q (h1.lt q e).2 fun hq => (h.far hq).2 i hi e
  have hm : (F i).flatMap gN = (F i).map fun x : Nat => Value.int .i64 (x : Nat) := by
    induction F i with
    | nil => rfl
    | cons x l ih => rw [List.flatMap_cons, ih]; rfl
  rw [hm] at h2
  obtain ⟨a, c, e⟩ := row_form h2
  rw [e] at h2 ⊢
  refine ⟨a, c, rfl, fun j hj => ?_⟩
  rcases h2.2 with ⟨e1, e2⟩ | ⟨g, cap, cur, e1, _⟩
  · omega
  · cases e1
    refine ⟨g, 0, rfl, ?_⟩
    rw [Nat.zero_add, h2.cellAt j (by omega)]
    simp [hj]
theorem RSt.split {w wr w' : World} {bp B n cnt k bf go gp gc gs gs' co cp cc cs : Nat} {O P C : Nat → Nat} {sp : Nat → Nat × Nat × Nat} {F : Nat → List Nat} {V : Nat → Value} {l : List Nat} (h : RSt w wr bp B n cnt k bf go gp gc gs gs' co cp cc cs O P C sp F V)
    (hs : SplitP wr w' bp B n k go gp gc gs' co cp cc C l) (ho : Oth wr w' (OwnQ bp go gp gc gs')) : ∃ k' gs2 cs2 O' P' C' sp', RSt w w' bp B n cnt k' bf go gp gc gs gs2 co cp cc cs2 O' P' C' sp' F V ∧ SplitR n k k' O' P' C C' sp' l := by
  obtain ⟨k', gs2, cs2, O', P', C', sp', hg, hp, hr⟩ := hs
  have hbig := h.rr.big
  refine ⟨k', gs2, cs2, O', P', C', sp', ⟨hp, ?_, fun q hq e => ?_, ?_, h.oth.trans ho fun q hq hn hq2 => ?_, h.size, h.lt⟩, hr⟩
  · have hbf : ¬ OwnQ bp go gp gc gs' bf := fun hq => (h.far hq).1 rfl
    exact ⟨(ho.block bf h.rr.lt hbf).trans h.rr.blk, fun i hi => row_same (h.rr.own i hi) fun q e => ho.block q ((h.rr.own i hi).lt q e).2 fun hq => (h.far hq).2 i hi e, h.rr.apart, h.rr.far, Nat.le_trans hbig ho.size⟩
  · rcases hg with rfl | hg
    · exact h.own q hq e
    · have := ((h.rr.own q hq).lt _ e).2
      omega
  · rcases hg with rfl | hg
    · exact h.sg
    · exact .inr (by omega)
  · rw [h.size] at hq
    rcases hq2 with e | e | e | e | e
    · exact hn (.inl e)
    · exact hn (.inr (.inl e))
    · exact hn (.inr (.inr (.inl e)))
    · exact hn (.inr (.inr (.inr (.inl e))))
    · rcases h.sg with e2 | e2
      · exact hn (.inr (.inr (.inr (.inr (e.trans e2)))))
      · omega
end Go.Proofs.Ytamgldhnfcikbaa
set_option maxRecDepth 100000
namespace Go.Proofs.Ytamgldhnfcikbaa
open List (getElem_toArray getElem_cons_succ getElem_cons_zero setIfInBounds_toArray set_cons_zero set_cons_succ)
open Go.RowKit

def fromU (E : List (Nat × Nat × Nat)) (ts : List Nat) (j e q : Nat) : List Nat := fromS E (ts.take j) q ++ (((sel E (ts.getD j 0)).take e).filter fun p => p.2 == q).map Prod.fst
theorem fromU_zero (E : List (Nat × Nat × Nat)) (ts : List Nat) (j : Nat) : fromU E ts j 0 = fromS E (ts.take j) := by
  funext q; unfold fromU; simp
theorem fromS_nil (E : List (Nat × Nat × Nat)) : fromS E [] = fun _ => [] := rfl
theorem fromU_next (E : List (Nat × Nat × Nat)) {ts : List Nat} {j : Nat} (hj : j < ts.length) : fromU E ts j (sel E ts[j]).length = fromU E ts (j + 1) 0 := by
  funext q
  rw [fromU_zero]
  unfold fromU fromS
  rw [List.take_succ_eq_append_getElem hj, List.flatMap_append, List.flatMap_singleton, List.getD_eq_getElem?_getD, List.getElem?_eq_getElem hj, Option.getD_some, List.take_length]
theorem fromU_done (E : List (Nat × Nat × Nat)) (ts : List Nat) : fromU E ts ts.length 0 = fromS E ts := by rw [fromU_zero, List.take_length]
theorem fromU_step (E : List (Nat × Nat × Nat)) {ts : List Nat} {j e : Nat} (hj : j < ts.length) (he : e < (sel E ts[j]).length) (q : Nat) :
    fromU E ts j (e + 1) q = if (sel E ts[j])[e].2 = q then fromU E ts j e q ++ [(sel E ts[j])[e].1] else fromU E ts j e q := by
  unfold fromU
  rw [List.getD_eq_getElem?_getD, List.getElem?_eq_getElem hj, Option.getD_some, List.take_succ_eq_append_getElem he, List.filter_append, List.map_append, ← List.append_assoc]
  by_cases h : (sel E ts[j])[e].2 = q
  · rw [if_pos h]; simp [h]
  · rw [if_neg h]; simp [h]
theorem fromU_at (E : List (Nat × Nat × Nat)) {ts : List Nat} {j e t x y : Nat} {L : List (Nat × Nat)} (hj : ts[j]? = some t) (hL : sel E t = L) (he : L[e]? = some (x, y)) (q : Nat) : fromU E ts j (e + 1) q = if y = q then fromU E ts j e q ++ [x] else fromU E ts j e q := by
  subst hL
  obtain ⟨h1, rfl⟩ := List.getElem?_eq_some_iff.1 hj
  obtain ⟨h2, h3⟩ := List.getElem?_eq_some_iff.1 he
  have := fromU_step E h1 h2 q
  rw [h3] at this
  exact this
theorem fromU_end (E : List (Nat × Nat × Nat)) {ts : List Nat} {j t : Nat} {L : List (Nat × Nat)} (hj : ts[j]? = some t) (hL : sel E t = L) : fromU E ts j L.length = fromU E ts (j + 1) 0 := by
  subst hL
  obtain ⟨h1, rfl⟩ := List.getElem?_eq_some_iff.1 hj
  exact fromU_next E h1
theorem fromU_sub (E : List (Nat × Nat × Nat)) {ts : List Nat} {j : Nat} (hj : j < ts.length) (e q : Nat) : (fromU E ts j e q).Sublist (fromS E ts q) := by
  have h1 : fromS E ts q = fromS E (ts.take j) q ++ fromS E (ts.drop j) q := by
    unfold fromS
    rw [← List.flatMap_append, List.take_append_drop]
  rw [h1]
  unfold fromU
  refine List.Sublist.append (List.Sublist.refl _) ?_
  rw [List.drop_eq_getElem_cons hj, List.getD_eq_getElem?_getD, List.getElem?_eq_getElem hj, Option.getD_some]
  unfold fromS
  rw [List.flatMap_cons]
  exact (((List.take_sublist e _).filter _).map _).trans (List.sublist_append_left _ _)
structure RfC (m : List Sta) (f : Nat → Bool) (n cnt : Nat) : Prop where
  mn : m.length = n
  mks : ∀ k, Marks f (arcsOf m k)
  ft : ∀ k, fitsB n (arcsOf m k) = true
  nx : ∀ s : Nat, s < n → ∀ b, b < 256 → nextS m (s : Nat) b < 0 ∨ ∃ y : Nat, y < n ∧ nextS m (s : Nat) b = y
  al : ∀ x : Nat, x < n → ¬ DeadS m (x : Nat)
  ct : cnt = cntB f 255 + 1
  bg : n ≤ 4096
theorem RfC.len {m : List Sta} {f : Nat → Bool} {n cnt : Nat} (h : RfC m f n cnt) {ts : List Nat} (hd : ts.Nodup) {j : Nat} (hj : j < ts.length) (e q : Nat) : (fromU (entU f m n) ts j e q).length ≤ n :=
  nodup_nat_le n _ ((fromS_nodup (entU_apart n h.mks h.ft) hd q).sublist (fromU_sub _ hj e q)) fun _ hx => fromS_lt ((fromU_sub _ hj e q).subset hx)
theorem sel_small {m : List Sta} {f : Nat → Bool} {n cnt : Nat} (h : RfC m f n cnt) (hb : ∀ k, ∀ a ∈ arcsOf m k, a.hi < 256) {t : Nat} {x : Nat × Nat} (hx : x ∈ sel (entU f m n) t) : x.1 < n ∧ x.2 < cnt := by
  obtain ⟨h1, a, ha, _, _, h2⟩ := mem_entU.1 (mem_sel.1 hx)
  refine ⟨h1, ?_⟩
  have := cntB_mono f (show a.hi ≤ 255 by have := hb _ a ha; omega)
  rw [h.ct]
  have h2 : x.2 ≤ cntB f a.hi := h2
  omega
theorem RSt.congr {w wr : World} {bp B n cnt k bf go gp gc gs gs' co cp cc cs : Nat} {O P C : Nat → Nat} {sp : Nat → Nat × Nat × Nat} {F F' : Nat → List Nat} {V : Nat → Value} (h : RSt w wr bp B n cnt k bf go gp gc gs gs' co cp cc cs O P C sp F V) (hF : ∀ q, q < cnt → F q = F' q) :
    RSt w wr bp B n cnt k bf go gp gc gs gs' co cp cc cs O P C sp F' V :=
  ⟨h.pa, ⟨h.rr.blk, fun i hi => by rw [← hF i hi]; exact h.rr.own i hi, h.rr.apart, h.rr.far, h.rr.big⟩, h.own, h.sg, h.oth, h.size, h.lt⟩
theorem RSt.big {w wr : World} {bp B n cnt k bf go gp gc gs gs' co cp cc cs : Nat} {O P C : Nat → Nat} {sp : Nat → Nat × Nat × Nat} {F : Nat → List Nat} {V : Nat → Value} (h : RSt w wr bp B n cnt k bf go gp gc gs gs' co cp cc cs O P C sp F V) : bf + 1 ≤ wr.heap.size := h.rr.big
theorem sel_many {m : List Sta} {f : Nat → Bool} {n cnt : Nat} (h : RfC m f n cnt) (hb : ∀ k, ∀ a ∈ arcsOf m k, a.hi < 256) (t : Nat) : (sel (entU f m n) t).length ≤ n * 256 := by
  have hc : cnt ≤ 256 := by rw [h.ct]; have := cntB_le f 255; omega
  have h1 := nodup_nat_le (n * 256) ((sel (entU f m n) t).map fun p => p.1 * 256 + p.2) (by
    rw [List.Nodup, List.pairwise_map]
    refine List.Pairwise.imp_of_mem ?_ (sel_apart (entU_apart n h.mks h.ft) t)
    intro a b ha hb2 hne e
    have h2 := sel_small h hb ha
    have h3 := sel_small h hb hb2
    exact hne (Prod.ext (by omega) (by omega))) (fun x hx => by
    obtain ⟨p, hp, rfl⟩ := List.mem_map.1 hx
    have h2 := sel_small h hb hp
    show p.1 * 256 + p.2 < _
    omega)
  rwa [List.length_map] at h1
def Refined (w w' : World) (m : List Sta) (bp B n go gp gc gs co cp cc : Nat) : Prop :=
  ∃ k gs' cs' O P C sp, PA w' bp B n k go gp gc gs' co cp cc cs' O P C sp ∧ RfI m n k k O P C sp ∧ Oth w w' (OwnQ bp go gp gc gs)
set_option linter.unusedSimpArgs false in
set_option maxHeartbeats 8000000 in
theorem refine_any (bp B n k0 go gp gc gs co cp cc cs cnt : Nat) (O P C : Nat → Nat) (sp : Nat → Nat × Nat × Nat) (b0 : Nat) (U : Nat → Value) (m : List Sta) (f : Nat → Bool) (w : World) (h : PA w bp B n k0 go gp gc gs co cp cc cs O P C sp) (hrf : RfI m n 0 k0 O P C sp) (hc : RfC m f n cnt) (hby : ∀ k, ∀ a ∈ arcsOf m k, a.hi < 256) (hbig : B ≤ w.heap.size)
    (hE : ∀ wr, Oth w wr (OwnQ bp go gp gc gs) → ∀ t, t < n → wr.cell? ⟨b0, t, none⟩ = some (U t) ∧ EntIn wr (U t) (sel (entU f m n) t)) :
    Calls Try.prog 50 #[.pointer (some ⟨bp, 0, none⟩), .slice (some ⟨b0, 0, none⟩) n n, .int .i64 cnt] w fun e w' => e = .returned (.tuple #[]) ∧ Hid (Refined w w' m bp B n go gp gc gs co cp cc) := by
  have mixed : Try.prog.follows .mixedOrders = true := by kernel_rfl
  obtain ⟨i0, hi0, hz0, hz1, hz2⟩ := info_parts infoI
  have HI := Lib.hid (And.intro hi0 (And.intro hz0 (And.intro hz1 hz2)))
  clear hi0 hz0 hz1 hz2
  have hcnt : cnt ≤ 256 := by rw [hc.ct]; have := cntB_le f 255; omega
  have HC := Lib.hid hc
  have HE := Lib.hid hE
  have HBY := Lib.hid hby
  obtain ⟨bf, hbf⟩ : ∃ bf, w.heap.size = bf := ⟨_, rfl⟩
  have hmk := make_slices Try.underlying53 infoRow (c := (cnt : Int)) (n := cnt) rfl (by omega) w
  rw [hbf] at hmk
  obtain ⟨w1, hw1⟩ : ∃ w1, w.alloc (.cells (Slices cnt fun _ => .slice none 0 0) 44) = w1 := ⟨_, rfl⟩
  have HS0 : Hid (RSt w w1 bp B n cnt k0 bf go gp gc gs gs co cp cc cs O P C sp (fun _ => []) (fun _ => .slice none 0 0)) := Lib.hid (by
    rw [← hw1, ← hbf]
    exact ⟨h.kept (fun q hq => (new_one w _).block q (h.under hq)), RR.new w _ _ _ _ _, fun q hq e => (by cases e), .inl rfl, Oth.of_below (new_one w _), rfl, fun q hq => h.under hq⟩)
  have HR0 := Lib.hid hrf
  rw [hw1] at hmk
  clear h hrf hc hE hw1 hby
  have HFIN := Lib.hid (show ∀ w' k gs' cs' O P C sp F V, RSt w w' bp B n cnt k bf go gp gc gs gs' co cp cc cs' O P C sp F V → RfI m n k k O P C sp → Refined w w' m bp B n go gp gc gs co cp cc from fun w' k gs' cs' O P C sp F V h1 h2 => ⟨k, gs', cs', O, P, C, sp, h1.pa, h2, h1.oth⟩)
  go_enter Try.func50, Try.ntmps50
  go_upto_region 2 with fail
  clear hmk
  go_loopw [7] (fun z wr => ∃ (i k gs' cs' : Nat) (O P C : Nat → Nat) (sp : Nat → Nat × Nat × Nat) (F : Nat → List Nat) (V : Nat → Value), z = .int .i64 i ∧ i ≤ k ∧ k ≤ n ∧ Hid (RSt w wr bp B n cnt k bf go gp gc gs gs' co cp cc cs' O P C sp F V) ∧ Hid (RfI m n i k O P C sp)) (fun z _ => n - (intOf z).toNat)
  case atStart => exact ⟨0, k0, gs, cs, O, P, C, sp, _, _, rfl, Nat.zero_le _, HR0.out.pi.le, HS0, HR0⟩
  case round =>
    clear HS0 HR0
    obtain ⟨i, k, gs2, cs2, O, P, C, sp, F, V, rfl, hik, hkn, HS, HR⟩ := hrel
    have e3 : wr.cell? ⟨bp, 3, none⟩ = some (.slice (some ⟨gs2, 0, none⟩) k cs2) := (cell_of_row wr bp 3 _ _ _ HS.out.pa.blk).trans rfl
    by_cases hlt : i < k
    · have hd : decide ((i : Int) < k) = true := decide_eq_true (by omega)
      go_upto_region 5 with fail
      clear e3
      go_loopw [28] (fun z wr => ∃ (j : Nat) (F : Nat → List Nat) (V : Nat → Value), z = .int .i64 j ∧ j ≤ cnt ∧ Hid (RSt w wr bp B n cnt k bf go gp gc gs gs2 co cp cc cs2 O P C sp F V) ∧ Hid (∀ q, q < j → F q = [])) (fun z _ => cnt - (intOf z).toNat)
      case atStart => exact ⟨0, F, V, rfl, Nat.zero_le _, HS, Lib.hid (fun q hq => by omega)⟩
      case round =>
        clear HS
        obtain ⟨j, F, V, rfl, hj, HS, HF⟩ := hrel
        by_cases hjc : j < cnt
        · have hd1 : decide ((j : Int) < cnt) = true := decide_eq_true (by omega)
          have hjc2 : (j : Int) < cnt := by omega
          obtain ⟨a3, c3, hV⟩ := HS.out.rr.form hjc
          have d0 : wr.cell? ⟨bf, j, none⟩ = some (.slice a3 (F j).length c3) := by rw [← hV]; exact HS.out.rr.cell hjc
          have hfz := HS.out.rr.frozen j
          have HS2 := Lib.hid (HS.out.cut hjc hV)
          have HF2 : Hid (∀ q, q < j + 1 → upd F j [] q = []) := Lib.hid (fun q hq => by
            by_cases e : q = j
            · subst e; exact upd_same _ _ _
            · rw [upd_other _ _ e]; exact HF.out q (by omega))
          clear hV HS HF
          go_wp2
          exact ⟨⟨j + 1, _, _, num_succ j, by omega, HS2, HF2⟩, by simp [intOf]; omega⟩
        · have hd1 : decide ((j : Int) < cnt) = false := decide_eq_false (by omega)
          obtain rfl : cnt = j := by omega
          have hz := HR.out.pi.sz i hlt
          obtain ⟨ts, hts⟩ : ∃ ts, membersOf O (sp i) = ts := ⟨_, rfl⟩
          have hM := pmembers_any bp B n k go gp gc gs2 co cp cc cs2 i O P C sp wr HS.out.pa hlt hz.2.2.2 hz.2.2.1
          have hnd := HR.out.pi.members_nodup hlt
          have HIN := Lib.hid (fun t (ht : t ∈ membersOf O (sp i)) => ((HR.out.pi.members hlt t).1 ht).1)
          rw [hts] at hM hnd HIN
          have HND := Lib.hid hnd
          have htl := nodup_nat_le n ts hnd HIN.out
          have hbg0 := HC.out.bg
          have HTS := Lib.hid hts
          have HS0 : Hid (∀ w2, Below wr.heap.size wr w2 → RSt w w2 bp B n cnt k bf go gp gc gs gs2 co cp cc cs2 O P C sp (fromU (entU f m n) ts 0 0) V) := Lib.hid fun w2 h2 => (HS.out.below h2).congr fun q hq => by rw [HF.out q hq, fromU_zero, List.take_zero, fromS_nil]
          clear hnd hts hz HS HF
          go_wp2_with (go_at_call 63; refine hM.mono ?_; rintro e w2 ⟨⟨u, rfl, hu⟩, hb2⟩; have HU2 := hu; have HS1 := Lib.hid (HS0.out w2 hb2.out); obtain ⟨au, cu, rfl, _⟩ := HU2.out w2 HS1.out.pa; clear hu hb2 HS0)
          clear hM
          go_loopw [44] (fun z wr => ∃ (j : Nat) (V : Nat → Value), z = .int .i64 j ∧ j ≤ ts.length ∧ Hid (RSt w wr bp B n cnt k bf go gp gc gs gs2 co cp cc cs2 O P C sp (fromU (entU f m n) ts j 0) V)) (fun z _ => ts.length - (intOf z).toNat)
          case atStart => exact ⟨0, V, rfl, Nat.zero_le _, HS1⟩
          case round =>
            clear HS1
            obtain ⟨j, V, rfl, hj, HS⟩ := hrel
            by_cases hjt : j < ts.length
            · have hd2 : decide ((j : Int) < ts.length) = true := decide_eq_true (by omega)
              have hjt2 : (j : Int) < ts.length := by omega
              obtain ⟨a9, c9, e1, hcell⟩ := HU2.out wr HS.out.pa
              cases e1
              obtain ⟨bu, ou, rfl, e0⟩ := hcell j hjt
              have ht := HIN.out _ (List.getElem_mem hjt)
              obtain ⟨t, htt⟩ : ∃ t, ts[j] = t := ⟨_, rfl⟩
              have hJ : ts[j]? = some t := by rw [List.getElem?_eq_getElem hjt, htt]
              rw [htt] at ht e0
              clear htt hcell
              have htn : (t : Int) < n := by omega
              obtain ⟨d0, hEn⟩ := HE.out wr HS.out.oth t ht
              obtain ⟨ae, ce, hU, _⟩ := hEn
              rw [hU] at d0
              have HU3 := Lib.hid hU
              have HT := Lib.hid ht
              have HSM := Lib.hid (fun x (hx : x ∈ sel (entU f m n) t) => sel_small HC.out HBY.out hx)
              obtain ⟨L, hL⟩ : ∃ L, sel (entU f m n) t = L := ⟨_, rfl⟩
              have hLn := sel_many HC.out HBY.out t
              have hbg := HC.out.bg
              rw [hL] at hLn
              have HLL := Lib.hid hL
              have HNX := Lib.hid (fromU_end (entU f m n) hJ hL)
              have HST := Lib.hid (fun e x y (he : L[e]? = some (x, y)) q => fromU_at (entU f m n) hJ hL he q)
              rw [hL] at d0 hU HU3 HSM
              clear hU hL hJ
              go_wp2
              clear e0 d0
              go_loopw [53] (fun z wr => ∃ (e : Nat) (V : Nat → Value), z = .int .i64 e ∧ e ≤ L.length ∧ Hid (RSt w wr bp B n cnt k bf go gp gc gs gs2 co cp cc cs2 O P C sp (fromU (entU f m n) ts j e) V)) (fun z _ => L.length - (intOf z).toNat)
              case atStart => exact ⟨0, V, rfl, Nat.zero_le _, HS⟩
              case round =>
                clear HS
                obtain ⟨e, V, rfl, he, HS⟩ := hrel
                by_cases hel : e < L.length
                · have hd3 : decide ((e : Int) < L.length) = true := decide_eq_true (by omega)
                  have hel2 : (e : Int) < L.length := by omega
                  obtain ⟨a9, c9, e1, hcell⟩ := (HE.out wr HS.out.oth t HT.out).2
                  rw [HU3.out, HLL.out] at e1
                  cases e1
                  rw [HLL.out] at hcell
                  obtain ⟨be, oe, rfl, c0, c1⟩ := hcell e hel
                  clear hcell
                  have hx := HSM.out _ (List.getElem_mem hel)
                  obtain ⟨⟨x, y⟩, hxy⟩ : ∃ p, L[e] = p := ⟨_, rfl⟩
                  have HSE := Lib.hid (HST.out e x y (by rw [List.getElem?_eq_getElem hel, hxy]))
                  rw [hxy] at hx c0 c1
                  clear hxy
                  obtain ⟨hxn, hyc⟩ := hx
                  have hyc2 : (y : Int) < cnt := by omega
                  obtain ⟨a3, cp3, hV⟩ := HS.out.rr.form hyc
                  have hlen := HC.out.len HND.out hjt e y
                  obtain ⟨ln, hln⟩ : ∃ ln, (fromU (entU f m n) ts j e y).length = ln := ⟨_, rfl⟩
                  rw [hln] at hV hlen
                  obtain ⟨B9, hB9⟩ : ∃ B9, wr.heap.size = B9 := ⟨_, rfl⟩
                  have hbwr := HS.out.rr.big
                  obtain ⟨w5, hw5⟩ : ∃ w5, wr.alloc (.cells #[.int .i64 x, .int .i64 y] 114) = w5 := ⟨_, rfl⟩
                  have hb5 : Below wr.heap.size wr w5 := by rw [← hw5]; exact new_one wr _
                  have hx5 : w5.heap[B9]? = some (.cells #[.int .i64 x, .int .i64 y] 114 (0, 0)) := by rw [← hw5, ← hB9]; exact heap_alloc_new wr _
                  have hs5 : w5.heap.size = B9 + 1 := by rw [← hw5]; simp [hB9]
                  have HRR := Lib.hid (HS.out.below hb5)
                  have HROW : Hid (w5.ownsRow (bf + 1) 3 1 (.slice a3 ln cp3) ln ((fromU (entU f m n) ts j e y).flatMap gN)) := Lib.hid (by have := HRR.out.rr.own y hyc; rw [hV, hln] at this; exact this)
                  have d0 : w5.drew.cell? ⟨bf, y, none⟩ = some (.slice a3 ln cp3) := by have := HRR.out.rr.cell hyc; rw [hV] at this; exact this
                  have d1 : w5.drew.cell? ⟨B9, 0, none⟩ = some (.int .i64 x) := (cell_of_row w5 B9 0 _ _ _ hx5).trans rfl
                  have d2 : w5.drew.cell? ⟨B9, 1, none⟩ = some (.int .i64 y) := (cell_of_row w5 B9 1 _ _ _ hx5).trans rfl
                  have HVK := Lib.hid hV
                  have HVL := Lib.hid (show ∀ q, (Value.slice a3 ln cp3).ownBlock = some q → q < B9 from fun q e => by have := ((HS.out.rr.own y hyc).lt q (by rw [hV]; exact e)).2; omega)
                  have HS5 := Lib.hid hs5
                  clear hx5 hb5 HS hV hs5
                  go_upto_region 15 with fail
                  clear hw5 c0 c1
                  refine region_goes 13 14 rfl (fun W => W.cell? ⟨bf, y, none⟩ = some (.slice a3 ln cp3) ∧ W.cell? ⟨B9, 0, none⟩ = some (.int .i64 x) ∧ W.cell? ⟨B9, 1, none⟩ = some (.int .i64 y)) mixed ⟨d0, d1, d2⟩ (fun hHeld => ?_)
                  clear d0 d1 d2
                  refine goes_take (i := 0) (v := ?gv1) rfl (by kernel_rfl) (by kernel_rfl) (by kernel_rfl) (by kernel_rfl) (fun _ _ _ h => h) (Or.inl ⟨by rfl, ?gy1⟩) (by assumption) ?gr1
                  case gy1 => (intro W9 hW9; obtain ⟨k0, k1, k2⟩ := hW9; first | (go_simp; done) | (go_simp; with_reducible rfl))
                  simp only [Act.put, getElem_toArray, getElem_cons_succ, getElem_cons_zero, setIfInBounds_toArray, set_cons_zero, set_cons_succ]
                  refine goes_take (i := 1) (v := ?gv2) rfl (by kernel_rfl) (by kernel_rfl) (by kernel_rfl) (by kernel_rfl) (fun _ _ _ h => h) (Or.inl ⟨by rfl, ?gy2⟩) (by assumption) ?gr2
                  case gy2 => (intro W9 hW9; obtain ⟨k0, k1, k2⟩ := hW9; first | (go_simp; done) | (go_simp; with_reducible rfl))
                  simp only [Act.put, getElem_toArray, getElem_cons_succ, getElem_cons_zero, setIfInBounds_toArray, set_cons_zero, set_cons_succ]
                  refine goes_take (i := 2) (v := ?gv3) rfl (by kernel_rfl) (by kernel_rfl) (by kernel_rfl) (by kernel_rfl) (fun _ _ _ h => h) (Or.inl ⟨by rfl, ?gy3⟩) (by assumption) ?gr3
                  case gy3 => (intro W9 hW9; obtain ⟨k0, k1, k2⟩ := hW9; first | (go_simp; done) | (go_simp; with_reducible rfl))
                  simp only [Act.put, getElem_toArray, getElem_cons_succ, getElem_cons_zero, setIfInBounds_toArray, set_cons_zero, set_cons_succ]
                  refine goes_take (i := 3) (v := ?gv4) rfl (by kernel_rfl) (by kernel_rfl) (by kernel_rfl) (by kernel_rfl) (fun _ _ _ h => h) (Or.inl ⟨by rfl, ?gy4⟩) (by assumption) ?gr4
                  case gy4 => (intro W9 hW9; obtain ⟨k0, k1, k2⟩ := hW9; first | (go_simp; done) | (go_simp; with_reducible rfl))
                  simp only [Act.put, getElem_toArray, getElem_cons_succ, getElem_cons_zero, setIfInBounds_toArray, set_cons_zero, set_cons_succ]
                  refine goes_take (i := 4) (v := ?gv5) rfl (by kernel_rfl) (by kernel_rfl) (by kernel_rfl) (by kernel_rfl) (fun _ _ _ h => h) (Or.inl ⟨by rfl, ?gy5⟩) (by assumption) ?gr5
                  case gy5 => (intro W9 hW9; obtain ⟨k0, k1, k2⟩ := hW9; first | (go_simp; done) | (go_simp; with_reducible rfl))
                  simp only [Act.put, getElem_toArray, getElem_cons_succ, getElem_cons_zero, setIfInBounds_toArray, set_cons_zero, set_cons_succ]
                  refine goes_take (i := 5) (v := ?gv6) rfl (by kernel_rfl) (by kernel_rfl) (by kernel_rfl) (by kernel_rfl) (fun _ _ _ h => h) (Or.inl ⟨by rfl, ?gy6⟩) (by assumption) ?gr6
                  case gy6 => (intro W9 hW9; obtain ⟨k0, k1, k2⟩ := hW9; first | (go_simp; done) | (go_simp; with_reducible rfl))
                  simp only [Act.put, getElem_toArray, getElem_cons_succ, getElem_cons_zero, setIfInBounds_toArray, set_cons_zero, set_cons_succ]
                  refine goes_take (i := 6) (v := ?gv7) rfl (by kernel_rfl) (by kernel_rfl) (by kernel_rfl) (by kernel_rfl) (fun _ _ _ h => h) (Or.inl ⟨by rfl, ?gy7⟩) (by assumption) ?gr7
                  case gy7 => (intro W9 hW9; obtain ⟨k0, k1, k2⟩ := hW9; first | (go_simp; done) | (go_simp; with_reducible rfl))
                  simp only [Act.put, getElem_toArray, getElem_cons_succ, getElem_cons_zero, setIfInBounds_toArray, set_cons_zero, set_cons_succ]
                  refine goes_take (i := 7) (v := ?gv8) rfl (by kernel_rfl) (by kernel_rfl) (by kernel_rfl) (by kernel_rfl) (fun _ _ _ h => h) (Or.inl ⟨by rfl, ?gy8⟩) (by assumption) ?gr8
                  case gy8 => (intro W9 hW9; obtain ⟨k0, k1, k2⟩ := hW9; first | (go_simp; done) | (go_simp; with_reducible rfl))
                  simp only [Act.put, getElem_toArray, getElem_cons_succ, getElem_cons_zero, setIfInBounds_toArray, set_cons_zero, set_cons_succ]
                  refine goes_take (i := 8) (v := ?gv9) rfl (by kernel_rfl) (by kernel_rfl) (by kernel_rfl) (by kernel_rfl) (fun _ _ _ h => h) (Or.inl ⟨by rfl, ?gy9⟩) (by assumption) ?gr9
                  case gy9 => (intro W9 hW9; obtain ⟨k0, k1, k2⟩ := hW9; first | (go_simp; done) | (go_simp; with_reducible rfl))
                  simp only [Act.put, getElem_toArray, getElem_cons_succ, getElem_cons_zero, setIfInBounds_toArray, set_cons_zero, set_cons_succ]
                  refine goes_take (i := 9) (v := ?gv10) rfl (by kernel_rfl) (by kernel_rfl) (by kernel_rfl) (by kernel_rfl) (fun _ _ _ h => h) (Or.inl ⟨by rfl, ?gy10⟩) (by assumption) ?gr10
                  case gy10 => (intro W9 hW9; obtain ⟨k0, k1, k2⟩ := hW9; first | (go_simp; done) | (go_simp; with_reducible rfl))
                  simp only [Act.put, getElem_toArray, getElem_cons_succ, getElem_cons_zero, setIfInBounds_toArray, set_cons_zero, set_cons_succ]
                  refine goes_one (i := 10) (by kernel_rfl) rfl (fun K9 hK9 => ?_)
                  go_simp
                  obtain ⟨w6, hw6⟩ : ∃ w6, (w5.alloc (.cells #[.int .i64 x] 3)).drew = w6 := ⟨_, rfl⟩
                  have hba : Below w5.heap.size w5 w6 := by
                    have h := new_one w5 (.cells #[.int .i64 x] 3)
                    rw [← hw6]; exact ⟨h.os, h.tape, h.output, h.size, h.block⟩
                  have hbd : Below w5.drew.heap.size w5.drew w6 := ⟨hba.os, hba.tape, hba.output, hba.size, hba.block⟩
                  have hxn : w6.heap[w5.heap.size]? = some (.cells #[.int .i64 x] 3 (0, 0)) := by rw [← hw6]; exact heap_alloc_new w5 _
                  have hs6 : w6.heap.size = w5.heap.size + 1 := by rw [← hw6]; show (w5.alloc _).heap.size = _; simp
                  have HR6 := Lib.hid (HRR.out.below hba)
                  have HRA := Lib.hid (row_same HROW.out fun q e => hba.block q (HROW.out.lt q e).2)
                  obtain ⟨k0, k1, k2⟩ := hHeld
                  have hk6 := (And.intro (cell_below hbd k0) (And.intro (cell_below hbd k1) (cell_below hbd k2)))
                  try rw [hw6]
                  refine hK9.out _ _ (fun _ => hk6) (fun hHeld => ?_)
                  have hHeld := hHeld (by decide)
                  clear hK9 K9 k0 k1 k2 hk6 hw6 hbd
                  refine goes_one (i := 11) (by kernel_rfl) rfl (fun K9 hK9 => ?_)
                  rw [if_pos (by rfl)]
                  refine wp_append_lies _ _ _ 44 rfl (bf + 1) 3 i0 (.int .i64 0) 1 8 Try.underlying44 HI.out.1 HI.out.2.1 HI.out.2.2.1 HI.out.2.2.2 rfl (by decide) (.slice a3 ln cp3) ln ((fromU (entU f m n) ts j e y).flatMap gN) rfl HRA.out ⟨w5.heap.size, 0, none⟩ 1 1 [.int .i64 x] rfl rfl (news_in (cs := #[.int .i64 x]) hxn) (by simp [Value.oneCell']) (by omega) (by unfold maxLen; omega) (by omega) (by have := HR6.out.big; omega) (w5.heap.size + 1) hs6 ?_
                  intro g9 cap2 w8 h2 h3 h4 h5
                  have hs5 := HS5.out
                  have hv8 : (V y).ownBlock = (Value.slice (some ⟨g9, 0, none⟩) (ln + 1) cap2).ownBlock ∨ ∃ q, (Value.slice (some ⟨g9, 0, none⟩) (ln + 1) cap2).ownBlock = some q ∧ w6.heap.size ≤ q := by
                    rw [HVK.out]
                    rcases h4 with h4 | h4
                    · exact .inl h4
                    · exact .inr ⟨g9, rfl, by omega⟩
                  have HRP := Lib.hid (HR6.out.push (F' := fromU (entU f m n) ts j (e + 1)) (x := x) hyc (by rw [HVK.out]; exact h3) (by rw [hln]; exact h2) hv8 (by rw [HSE.out, if_pos rfl]) (fun i hi => by rw [HSE.out, if_neg (fun e => hi e.symm)]))
                  have hfz : w8.frozen? ⟨bf, y, none⟩ = false := by
                    have h9 : w8.heap[bf]? = w6.heap[bf]? := h3.block bf HR6.out.rr.lt (fun e => by have := (HROW.out.lt bf e.symm).1; omega)
                    exact frozen_row (j := y) (h9.trans HR6.out.rr.blk)
                  obtain ⟨k0, k1, k2⟩ := hHeld
                  have hk8 : ∀ {a : Addr} {v : Value}, w6.cell? a = some v → some a.block ≠ (Value.slice a3 ln cp3).ownBlock → w8.cell? a = some v := fun hc hn => (World.cell?_of_block (h3.block _ (cell_lt hc) hn)).trans hc
                  refine hK9.out _ _ (fun _ => ⟨hk8 k0 (fun e => by have h := (HROW.out.lt _ e.symm).1; exact absurd h (by show ¬ bf + 1 ≤ bf; omega)), hk8 k1 (fun e => by have h := HVL.out _ e.symm; exact absurd h (Nat.lt_irrefl _)), hk8 k2 (fun e => by have h := HVL.out _ e.symm; exact absurd h (Nat.lt_irrefl _))⟩) (fun hHeld => ?_)
                  have hHeld := hHeld (by decide)
                  clear hK9 K9 hk8 h2 h3 h4 h5 hxn hba k0 k1 k2
                  refine goes_one (i := 12) (by kernel_rfl) rfl (fun K9 hK9 => ?_)
                  go_simp
                  refine hK9.out _ _ (fun _ => hHeld) (fun hHeld => ?_)
                  have hHeld := hHeld (by decide)
                  clear hK9 K9
                  refine goes_one (i := 13) (by kernel_rfl) rfl (fun K9 hK9 => ?_)
                  go_simp
                  refine hK9.out _ _ (fun h => absurd rfl h) (fun _ => ?_)
                  clear hK9 K9 hHeld
                  refine goes_done (by kernel_rfl) ?_ _
                  go_wp2
                  go_roundw
                  case rel => exact ⟨e + 1, _, num_succ e, by omega, HRP⟩
                  case measure => simp [intOf]; omega
                · obtain rfl : e = L.length := by omega
                  have hd3 : decide ((L.length : Int) < L.length) = false := by simp
                  rw [HNX.out] at HS
                  go_wp2
                  go_roundw
                  case rel => exact ⟨j + 1, V, num_succ j, by omega, HS⟩
                  case measure => simp [intOf]; omega
            · obtain rfl : j = ts.length := by omega
              have hd2 : decide ((ts.length : Int) < ts.length) = false := by simp
              rw [fromU_done] at HS
              have HQ0 : Hid (RfQ m f n k k C O P C sp ts 0) := Lib.hid (HR.out.take f ts)
              have HV := Lib.hid (show ∀ q, q < cnt → ∃ a c, V q = .slice a (fromS (entU f m n) ts q).length c from fun q hq => HS.out.rr.form hq)
              go_wp2
              go_loopw [74] (fun z wr => ∃ (q k' gs3 cs3 : Nat) (O' P' C' : Nat → Nat) (sp' : Nat → Nat × Nat × Nat), z = .int .i64 q ∧ q ≤ cnt ∧ Hid (RSt w wr bp B n cnt k' bf go gp gc gs gs3 co cp cc cs3 O' P' C' sp' (fromS (entU f m n) ts) V) ∧ Hid (RfQ m f n k k' C O' P' C' sp' ts q)) (fun z _ => cnt - (intOf z).toNat)
              case atStart => exact ⟨0, k, gs2, cs2, O, P, C, sp, rfl, Nat.zero_le _, HS, HQ0⟩
              case round =>
                clear HS HQ0
                obtain ⟨q, k', gs3, cs3, O', P', C', sp', rfl, hq, HS, HQ⟩ := hrel
                by_cases hqc : q < cnt
                · have hd4 : decide ((q : Int) < cnt) = true := decide_eq_true (by omega)
                  have hqc2 : (q : Int) < cnt := by omega
                  have d0 := HS.out.rr.cell hqc
                  have hsz := HS.out.oth.size
                  have hsp := psplit_any bp B n k' go gp gc gs3 co cp cc cs3 O' P' C' sp' (fromS (entU f m n) ts q) (V q) wr HS.out.pa HQ.out.pi HQ.out.un HC.out.bg (by omega) (fun w' h' => HS.out.ints hqc w' h') (fromS_nodup (entU_apart n HC.out.mks HC.out.ft) HND.out q) (fun s hs => fromS_lt hs)
                  have HSS := Lib.hid (fun w' (h1 : SplitP wr w' bp B n k' go gp gc gs3 co cp cc C' (fromS (entU f m n) ts q)) h2 => HS.out.split h1 h2)
                  have HQS := Lib.hid (fun k2 O2 P2 C2 sp2 (h1 : SplitR n k' k2 O2 P2 C' C2 sp2 (fromS (entU f m n) ts q)) => HQ.out.split h1)
                  clear HS HQ hsz
                  obtain ⟨a8, c8, hVq⟩ := HV.out q hqc
                  rw [hVq] at d0 hsp
                  clear hVq
                  go_wp2_with (go_at_call 48; refine hsp.mono ?_; rintro e w2 ⟨rfl, hs2, ho2⟩; obtain ⟨k2, gs4, cs4, O2, P2, C2, sp2, hs5, hr5⟩ := HSS.out w2 hs2.out ho2.out; have HS5 := Lib.hid hs5; have HQ5 := Lib.hid (HQS.out k2 O2 P2 C2 sp2 hr5); clear hs5 hr5 hs2 ho2)
                  go_roundw
                  case rel => exact ⟨q + 1, k2, gs4, cs4, O2, P2, C2, sp2, num_succ q, by omega, HS5, HQ5⟩
                  case measure => simp [intOf]; omega
                · obtain rfl : cnt = q := by omega
                  have hd4 : decide ((cnt : Int) < cnt) = false := by simp
                  have HRN : Hid (RfI m n (i + 1) k' O' P' C' sp') := Lib.hid (HR.out.round hlt HC.out.mn HC.out.mks HC.out.ft HC.out.nx HC.out.al HTS.out.symm (by have := HQ.out; rw [HC.out.ct] at this; exact this))
                  have hkk := HQ.out.fine.kk
                  have hle := HQ.out.pi.le
                  go_wp2
                  go_roundw
                  case rel => exact ⟨i + 1, k', gs3, cs3, O', P', C', sp', _, V, num_succ i, by omega, hle, HS, HRN⟩
                  case measure => simp [intOf]; omega
    · obtain rfl : i = k := by omega
      have hd : decide ((i : Int) < i) = false := decide_eq_false (by omega)
      go_wp2
      go_end0
      exact ⟨rfl, Lib.hid (HFIN.out _ _ _ _ _ _ _ _ _ _ HS.out HR.out)⟩
end Go.Proofs.Ytamgldhnfcikbaa
set_option maxRecDepth 100000
namespace Go.Proofs.Ytamgldhnfcikbaa
open Go.RowKit

theorem ints_of_row {w : World} {B : Nat} {v : Value} {l : List Nat} (h : w.ownsRow B 3 1 v l.length (l.flatMap gN)) : IntsIn w v l := by
  have hm : l.flatMap gN = l.map fun x : Nat => Value.int .i64 (x : Nat) := by
    clear h
    induction l with
    | nil => rfl
    | cons x l ih => rw [List.flatMap_cons, ih]; rfl
  rw [hm] at h
  obtain ⟨a, c, e⟩ := row_form h
  rw [e] at h ⊢
  refine ⟨a, c, rfl, fun j hj => ?_⟩
  rcases h.2 with ⟨e1, e2⟩ | ⟨g, cap, cur, e1, _⟩
  · omega
  · cases e1
    refine ⟨g, 0, rfl, ?_⟩
    rw [Nat.zero_add, h.cellAt j (by omega)]
    simp [hj]
theorem gE_at : ∀ (l : List (Nat × Nat)) (i : Nat) (h : i < l.length), (l.flatMap gE)[i * 2]? = some (.int .i64 (l[i].1 : Nat)) ∧ (l.flatMap gE)[i * 2 + 1]? = some (.int .i64 (l[i].2 : Nat))
  | [], i, h => by simp at h
  | x :: l, 0, _ => ⟨rfl, rfl⟩
  | x :: l, i + 1, h => by
    have ih := gE_at l i (by simpa using h)
    rw [List.flatMap_cons, show (i + 1) * 2 = i * 2 + 1 + 1 by omega]
    exact ih
theorem ent_of_row {w : World} {B : Nat} {v : Value} {l : List (Nat × Nat)} (h : w.ownsRow B 114 2 v l.length (l.flatMap gE)) : EntIn w v l := by
  obtain ⟨a, c, e⟩ := row_form h
  rw [e] at h ⊢
  refine ⟨a, c, rfl, fun j hj => ?_⟩
  obtain ⟨h1, h2⟩ := gE_at l j hj
  rcases h.2 with ⟨e1, e2⟩ | ⟨g, cap, cur, e1, _⟩
  · omega
  · cases e1
    refine ⟨g, 0, rfl, ?_, ?_⟩
    · rw [Nat.zero_add, h.cellAt (j * 2) (by omega), h1]
    · rw [Nat.zero_add, h.cellAt (j * 2 + 1) (by omega), h2]
structure CSt (w wr : World) (bp B n k N go gp gc gs gs' co cp cc cs : Nat) (O P C : Nat → Nat) (sp : Nat → Nat × Nat × Nat) : Prop where
  pa : PA wr bp B n k go gp gc gs' co cp cc cs O P C sp
  sg : gs' = gs ∨ w.heap.size ≤ gs'
  oth : Oth w wr (OwnQ bp go gp gc gs)
  lt : ∀ q, OwnQ bp go gp gc gs q → q < N
  nw : N ≤ w.heap.size
theorem CSt.not {w wr : World} {bp B n k N go gp gc gs gs' co cp cc cs : Nat} {O P C : Nat → Nat} {sp : Nat → Nat × Nat × Nat} (h : CSt w wr bp B n k N go gp gc gs gs' co cp cc cs O P C sp) {q : Nat} (h1 : N ≤ q) (h2 : q < w.heap.size) : ¬ OwnQ bp go gp gc gs' q := by
  intro hq
  have key : OwnQ bp go gp gc gs q ∨ q = gs' := by
    rcases hq with e | e | e | e | e
    · exact .inl (.inl e)
    · exact .inl (.inr (.inl e))
    · exact .inl (.inr (.inr (.inl e)))
    · exact .inl (.inr (.inr (.inr (.inl e))))
    · exact .inr e
  rcases key with h3 | h3
  · have := h.lt q h3; omega
  · rcases h.sg with e | e
    · have := h.lt q (.inr (.inr (.inr (.inr (h3.trans e))))); omega
    · omega
theorem CSt.rows {w wr : World} {bp B n k N go gp gc gs gs' co cp cc cs : Nat} {O P C : Nat → Nat} {sp : Nat → Nat × Nat × Nat} (h : CSt w wr bp B n k N go gp gc gs gs' co cp cc cs O P C sp) {v : Value} {K : Nat} {f : Nat → List Nat} {V : Nat → Value} (hg : GR w 3 44 1 (N + 1) v K gN f V) : GR wr 3 44 1 (N + 1) v K gN f V :=
  hg.keep h.oth.size fun q h1 h2 => h.oth.block q h1 fun hq => by have := h.lt q hq; omega
theorem CSt.ints {w wr w' : World} {bp B n k N go gp gc gs gs' co cp cc cs : Nat} {O P C : Nat → Nat} {sp : Nat → Nat × Nat × Nat} (h : CSt w wr bp B n k N go gp gc gs gs' co cp cc cs O P C sp) {v : Value} {K i : Nat} {f : Nat → List Nat} {V : Nat → Value} (hg : GR w 3 44 1 (N + 1) v K gN f V) (hi : i < K)
    (ho : Oth wr w' (OwnQ bp go gp gc gs')) : IntsIn w' (V i) (f i) := by
  have h1 := (h.rows hg).own i hi
  have h0 := hg.own i hi
  exact ints_of_row (row_same h1 fun q e => ho.block q (h1.lt q e).2 (h.not (by have := (h0.lt q e).1; omega) (h0.lt q e).2))
theorem CSt.split {w wr w' : World} {bp B n k N go gp gc gs gs' co cp cc cs : Nat} {O P C : Nat → Nat} {sp : Nat → Nat × Nat × Nat} {l : List Nat} (h : CSt w wr bp B n k N go gp gc gs gs' co cp cc cs O P C sp)
    (hs : SplitP wr w' bp B n k go gp gc gs' co cp cc C l) (ho : Oth wr w' (OwnQ bp go gp gc gs')) : ∃ k' gs2 cs2 O' P' C' sp', CSt w w' bp B n k' N go gp gc gs gs2 co cp cc cs2 O' P' C' sp' ∧ SplitR n k k' O' P' C C' sp' l := by
  obtain ⟨k', gs2, cs2, O', P', C', sp', hg, hp, hr⟩ := hs
  have hos := h.oth.size
  refine ⟨k', gs2, cs2, O', P', C', sp', ⟨hp, ?_, h.oth.trans ho fun q hq hn hq2 => ?_, h.lt, h.nw⟩, hr⟩
  · rcases hg with rfl | hg
    · exact h.sg
    · exact .inr (by omega)
  · rcases hq2 with e | e | e | e | e
    · exact hn (.inl e)
    · exact hn (.inr (.inl e))
    · exact hn (.inr (.inr (.inl e)))
    · exact hn (.inr (.inr (.inr (.inl e))))
    · rcases h.sg with e2 | e2
      · exact hn (.inr (.inr (.inr (.inr (e.trans e2)))))
      · omega
def ClsP (m : List Sta) (w : World) (e : Ending) (w' : World) : Prop :=
  ∃ C : Nat → Nat, e = .returned (.slice (some ⟨w.heap.size, 0, none⟩) m.length m.length) ∧ Hid (∀ i, i < m.length → w'.cell? ⟨w.heap.size, i, none⟩ = some (.int .i64 (C i : Nat)) ∧ C i < m.length) ∧
    Hid (∀ s t, s < m.length → t < m.length → (C s = C t ↔ AlikeS m m (s : Nat) (t : Nat))) ∧ Hid (Below w.heap.size w w')
theorem Fits.rfc {m : List Sta} {f : Nat → Bool} (h : Fits m) (hal : ∀ x, x < m.length → ¬ DeadS m ((x : Nat) : Int)) (hn : m.length ≤ 4096) (hf : ∀ x, f x = true ↔ Begs (m.flatMap Sta.arcs) x) : RfC m f m.length (cntB f 255 + 1) := by
  refine ⟨rfl, fun k => ?_, fun k => ?_, h.next, hal, rfl, hn⟩
  · by_cases hk : k < m.length
    · rw [arcsOf_at hk]; exact marks_of hf (List.getElem_mem hk)
    · intro a ha
      unfold arcsOf at ha
      rw [List.getElem?_eq_none (by omega)] at ha
      simp at ha
  · by_cases hk : k < m.length
    · rw [arcsOf_at hk]; exact (h k hk).1
    · unfold arcsOf
      rw [List.getElem?_eq_none (by omega)]
      rfl
theorem Fits.byte {m : List Sta} (h : Fits m) (k : Nat) (a : Arc3) (ha : a ∈ arcsOf m k) : a.hi < 256 := by
  by_cases hk : k < m.length
  · rw [arcsOf_at hk] at ha; exact (h k hk).2 a ha
  · unfold arcsOf at ha
    rw [List.getElem?_eq_none (by omega)] at ha
    simp at ha
theorem ents_of_rr {w : World} {b n : Nat} {E : List (Nat × Nat × Nat)} {V : Nat → Value} (h : RR w 114 112 2 b (b + 1) n gE (sel E) V) {wr : World} (hs : w.heap.size ≤ wr.heap.size) (hk : ∀ k, k < w.heap.size → b ≤ k → wr.heap[k]? = w.heap[k]?) (t : Nat) (ht : t < n) :
    wr.cell? ⟨b, t, none⟩ = some (V t) ∧ EntIn wr (V t) (sel E t) := by
  have h2 := h.keep hs fun k h1 h2 => hk k h1 (by omega)
  exact ⟨h2.cell ht, ent_of_row (h2.own t ht)⟩
end Go.Proofs.Ytamgldhnfcikbaa
set_option maxRecDepth 100000
namespace Go.Proofs.Ytamgldhnfcikbaa
open Go.RowKit

set_option linter.unusedSimpArgs false in
set_option maxHeartbeats 8000000 in
theorem classes_any (v : Value) (m : List Sta) (w : World) (hv : MachAt w v m) (hn : m.length ≤ 4096) (h0 : 0 < m.length) (hf : Fits m) (hm : Mays m) (hal : ∀ x, x < m.length → ¬ DeadS m ((x : Nat) : Int)) :
    Calls Try.prog 23 #[v] w (ClsP m w) := by
  have hl : ∀ s ∈ m, s.arcs.length ≤ 256 := fun s hs => by
    obtain ⟨i, hi, rfl⟩ := List.getElem_of_mem hs
    exact fits_len (hf i hi).1 (hf i hi).2
  have HF := Lib.hid hf
  have HM := Lib.hid hm
  have HAL := Lib.hid hal
  have HL := Lib.hid hl
  obtain ⟨N, hN⟩ : ∃ N, w.heap.size = N := ⟨_, rfl⟩
  have HV := Lib.hid (show ∀ wr, Below N w wr → MachAt wr v m from fun wr h => hv.below (by rw [hN]; exact h))
  obtain ⟨av, cv, rfl⟩ := hv.len
  have hNP := newPart_any m.length w hn
  rw [hN] at hNP
  have HFIN := Lib.hid (show ∀ w' (C : Nat → Nat), (∀ i, i < m.length → w'.cell? ⟨N, i, none⟩ = some (.int .i64 (C i : Nat)) ∧ C i < m.length) → (∀ s t, s < m.length → t < m.length → (C s = C t ↔ AlikeS m m (s : Nat) (t : Nat))) → Below N w w' → ClsP m w (.returned (.slice (some ⟨N, 0, none⟩) m.length m.length)) w' from fun w' C h1 h2 h3 => ⟨C, by rw [hN], Lib.hid (by rw [hN]; exact h1), Lib.hid h2, Lib.hid (by rw [hN]; exact h3)⟩)
  have Z := zero_ints
  clear hv hf hm hal hl
  go_enter Try.func23, Try.ntmps23
  go_upto_region 2 with (go_at_call 46; refine hNP.mono ?_; rintro e w1 ⟨rfl, ⟨v1, u1, hnp⟩, hb1⟩; obtain ⟨go, gp, co, cp, hpa⟩ := hnp.out.done h0; have HPA1 := Lib.hid hpa; have HB1 := hb1; clear hnp hb1 hpa)
  clear hNP
  have hacc := byacc_any _ m w1 (HV.out w1 HB1.out) hn
  have hKl : (keysUp (accAt m) m.length).length ≤ 4096 := Nat.le_trans (keysUp_len _ _) hn
  go_wp2_with (go_at_call 47; refine hacc.mono ?_; rintro e w2 ⟨vg, V, rfl, hgr, hb2⟩; have HGR := hgr; have HB2 := hb2; obtain ⟨ag, cg, rfl⟩ := row_form HGR.out.outer; clear hgr hb2)
  clear hacc
  obtain ⟨N1, hN1⟩ : ∃ N1, w1.heap.size = N1 := ⟨_, rfl⟩
  rw [hN1] at HGR
  have HC0 : Hid (CSt w2 w2 (N + 2) N m.length 1 N1 go gp N (N + 1) (N + 1) co cp m.length 1 (fun i => i) (fun i => i) (fun _ => 0) (fun _ => (0, 0, m.length))) := Lib.hid ⟨HPA1.out.kept (fun q hq => HB2.out.block q (HPA1.out.under hq)), .inl rfl, Oth.refl _ _, fun q hq => by rw [← hN1]; exact HPA1.out.under hq, by rw [← hN1]; exact HB2.out.size⟩
  have HA0 := Lib.hid (RfA.start m h0)
  have HNN : Hid (N ≤ N1 ∧ N1 ≤ w2.heap.size) := Lib.hid ⟨by rw [← hN1, ← hN]; exact HB1.out.size, by rw [← hN1]; exact HB2.out.size⟩
  have HB12 : Hid (Below N w w2) := Lib.hid (HB1.out.trans (HB2.out.mono (by rw [hN1]; exact HNN.out.1)))
  have HLO := Lib.hid (show ∀ wr k gs' cs' (O P C : Nat → Nat) sp, CSt w2 wr (N + 2) N m.length k N1 go gp N (N + 1) gs' co cp m.length cs' O P C sp → Below N w2 wr from fun wr k gs' cs' O P C sp h => h.oth.below (by have := HNN.out; omega) fun q hq ho => by
    have h1 := HPA1.out
    have e1 := h1.ro.lt go rfl
    have e2 := h1.rp.lt gp rfl
    rcases ho with e | e | e | e | e <;> omega)
  clear HPA1 HB2 hN1
  go_loopw [14] (fun z wr => ∃ (g k gs' cs' : Nat) (O P C : Nat → Nat) (sp : Nat → Nat × Nat × Nat), z = .int .i64 g ∧ g ≤ (keysUp (accAt m) m.length).length ∧ Hid (CSt w2 wr (N + 2) N m.length k N1 go gp N (N + 1) gs' co cp m.length cs' O P C sp) ∧ Hid (RfA m m.length k O P C sp g)) (fun z _ => (keysUp (accAt m) m.length).length - (intOf z).toNat)
  case atStart => exact ⟨0, _, _, _, _, _, _, _, rfl, Nat.zero_le _, HC0, HA0⟩
  case round =>
    clear HC0 HA0
    obtain ⟨g, k, gs3, cs3, O, P, C, sp, rfl, hg, HS, HQ⟩ := hrel
    by_cases hgk : g < (keysUp (accAt m) m.length).length
    · have hd : decide ((g : Int) < (keysUp (accAt m) m.length).length) = true := decide_eq_true (by omega)
      have hgk2 : (g : Int) < (keysUp (accAt m) m.length).length := by omega
      have HGW := Lib.hid (HS.out.rows HGR.out)
      obtain ⟨q9, c9, e1, _, _, d0⟩ := HGW.out.cell hgk
      cases e1
      obtain ⟨a8, c8, hVg⟩ := HGW.out.form hgk
      have hsz := HS.out.oth.size
      have hnn := HNN.out
      have hsp := psplit_any (N + 2) N m.length k go gp N gs3 co cp m.length cs3 O P C sp (grp (accAt m) (keysUp (accAt m) m.length) m.length g) (V g) wr HS.out.pa HQ.out.pi HQ.out.un hn (by omega) (fun w' h' => HS.out.ints HGR.out hgk h') (grp_nodup _ _ _ _) (fun s hs => (grp_mem.1 hs).1)
      have HSS := Lib.hid (fun w' (h1 : SplitP wr w' (N + 2) N m.length k go gp N gs3 co cp m.length C (grp (accAt m) (keysUp (accAt m) m.length) m.length g)) h2 => HS.out.split h1 h2)
      have HQS := Lib.hid (fun k2 O2 P2 C2 sp2 (h1 : SplitR m.length k k2 O2 P2 C C2 sp2 (grp (accAt m) (keysUp (accAt m) m.length) m.length g)) => HQ.out.split h1)
      clear HS HQ hsz HGW hnn
      rw [hVg] at d0 hsp
      clear hVg
      go_wp2_with (go_at_call 48; refine hsp.mono ?_; rintro e w4 ⟨rfl, hs2, ho2⟩; obtain ⟨k2, gs4, cs4, O2, P2, C2, sp2, hs5, hr5⟩ := HSS.out w4 hs2.out ho2.out; have HS5 := Lib.hid hs5; have HQ5 := Lib.hid (HQS.out k2 O2 P2 C2 sp2 hr5); clear hs5 hr5 hs2 ho2)
      go_roundw
      case rel => exact ⟨g + 1, k2, gs4, cs4, O2, P2, C2, sp2, num_succ g, by omega, HS5, HQ5⟩
      case measure => simp [intOf]; omega
    · obtain rfl : g = (keysUp (accAt m) m.length).length := by omega
      have hd : decide (((keysUp (accAt m) m.length).length : Int) < (keysUp (accAt m) m.length).length) = false := by simp
      have HRI := Lib.hid HQ.out.done
      have HBW : Hid (Below N w wr) := Lib.hid (HB12.out.trans (HLO.out _ _ _ _ _ _ _ _ HS.out))
      clear HQ
      have hstr := stripes_any _ m wr (HV.out wr HBW.out) hn (fun s hs => by have := HL.out s hs; omega) HM.out
      have hnn := HNN.out
      have hsr := HS.out.oth.size
      have HSZ := Lib.hid (show N ≤ wr.heap.size by omega)
      have HUN := Lib.hid (fun q (hq : OwnQ (N + 2) go gp N gs3 q) => HS.out.pa.under hq)
      have HGE := Lib.hid (show ∀ q, OwnQ (N + 2) go gp N gs3 q → N ≤ q from fun q ho => by
        have e1 := HS.out.pa.ro.lt go rfl
        have e2 := HS.out.pa.rp.lt gp rfl
        have e3 := HS.out.pa.rs.lt gs3 rfl
        rcases ho with e | e | e | e | e <;> omega)
      have HPA := Lib.hid HS.out.pa
      clear HS hnn hsr
      go_wp2_with (first
        | (go_at_call 49; refine hstr.mono ?_; rintro e w3 ⟨⟨f, hf, rfl⟩, hb3⟩; have HF3 := hf; have HB3 := hb3; have HZ := Lib.hid (heap_alloc_new w3 (.cells (Ints fun _ => 0) 49)); clear hf hb3)
        | (refine wpList_store_ints w3.heap.size (fun _ => 0) (fun i => ((cntB f i : Nat) : Int)) HZ.out rfl _ _ rfl rfl rfl ?_; have HI5 := Lib.hid (IBlk.setRow HZ.out (g := fun i => ((cntB f i : Nat) : Int))); have HB5 := Lib.hid (below_setRow (new_one w3 (.cells (Ints fun _ => 0) 49)) (Nat.le_refl w3.heap.size) (Ints fun i => ((cntB f i : Nat) : Int))); generalize (w3.alloc (.cells (Ints fun _ => 0) 49)).setRow w3.heap.size (Ints fun i => ((cntB f i : Nat) : Int)) = w5 at *)
        | (refine wpList_load_ints w3.heap.size (fun i => ((cntB f i : Nat) : Int)) HI5.out rfl _ rfl rfl ?_)
        | (go_at_call 51; have HR5 := Lib.hid (HB3.out.trans (HB5.out.mono HB3.out.size)); refine (entries_any _ m f w5 (HV.out w5 (HBW.out.trans (HR5.out.mono HSZ.out))) hn HL.out HM.out (fun s hs => by
            obtain ⟨i, hi, rfl⟩ := List.getElem_of_mem hs
            exact (HF.out i hi).1)).mono ?_; rintro e w6 ⟨be, VE, rfl, hrr, hbe, hb6⟩; have HRR := hrr; have HB6 := Lib.hid (HR5.out.trans (hb6.out.mono HR5.out.size)); have HBE := Lib.hid (Nat.le_trans HR5.out.size hbe); clear hrr hbe hb6)
        | (go_at_call 50; refine (refine_any (N + 2) N m.length k go gp N gs3 co cp m.length cs3 (cntB f 255 + 1) O P C sp be VE m f w6 (HPA.out.kept fun q hq => HB6.out.block q (HUN.out q hq)) HRI.out (HF.out.rfc HAL.out hn HF3.out) HF.out.byte (Nat.le_trans HSZ.out HB6.out.size) (fun w' ho t ht => ents_of_rr HRR.out ho.size (fun q h1 h2 => ho.block q h1 fun hq => absurd (HUN.out q hq) (Nat.not_lt.2 (Nat.le_trans HBE.out h2))) t ht)).mono ?_; rintro e w7 ⟨rfl, hr7⟩; obtain ⟨k7, gs7, cs7, O7, P7, C7, sp7, hpa7, hri7, ho7⟩ := hr7.out; have d2 : w7.cell? ⟨N + 2, 2, none⟩ = some (.slice (some ⟨N, 0, none⟩) m.length m.length) := (cell_of_row w7 (N + 2) 2 _ _ _ hpa7.blk).trans rfl; have HP7 := Lib.hid hpa7; have HI7 := Lib.hid hri7; have HO7 := Lib.hid ho7; clear hr7 hpa7 hri7 ho7))
      have hlow : Below N w w7 := (HBW.out.trans (HB6.out.mono HSZ.out)).trans (HO7.out.below (Nat.le_trans HSZ.out HB6.out.size) fun q hq ho => absurd (HGE.out q ho) (Nat.not_le.2 hq))
      have hle := HI7.out.pi.le
      exact bodyPost_ret (v := .slice (some ⟨N, 0, none⟩) m.length m.length) (by simp [results, Try.results23, go_sem, *]) rfl (HFIN.out w7 C7 (fun i hi => ⟨by rw [HP7.out.rc.cellAt i (by omega), natsV_at C7 hi], Nat.lt_of_lt_of_le (HI7.out.pi.cl i hi).1 hle⟩) (fun s t hs ht => HI7.out.done HF.out.next hs ht) hlow)
end Go.Proofs.Ytamgldhnfcikbaa
