/- Texts that a proof rests on: The reference's apart: an And, or a Not, from one place on. -/
import Derived.Test.YtpfhhdiipedklaaDoorK33
import Derived.Deep.CutRange
set_option maxRecDepth 100000
namespace Go.Proofs.YtpfhhdiipedklaaDoor
open Go.RowKit

/-- What the first kids let through. -/
def Cur (s : ByteArray) (p : Pat) (o k x : Nat) : Prop := o ≤ x ∧ (p.op = 5 → k = 0 ∨ ¬ rowM s (p.kids.take k) o x) ∧ (p.op ≠ 5 → allM s (p.kids.take k) o x)
theorem cur_zero (s : ByteArray) (p : Pat) (o x : Nat) : Cur s p o 0 x ↔ o ≤ x := by
  unfold Cur
  rw [List.take_zero, allM]
  exact ⟨fun h => h.1, fun h => ⟨h, fun _ => .inl rfl, fun _ => trivial⟩⟩
theorem cur_not {s : ByteArray} {p : Pat} (h5 : p.op = 5) (hl : p.kids.length = 1) (o k x : Nat) (hk : k < p.kids.length) : Cur s p o (k + 1) x ↔ o ≤ x ∧ ¬ p.kids[k].M s o x := by
  obtain rfl : k = 0 := by omega
  obtain ⟨q, hq⟩ := List.length_eq_one_iff.1 hl
  unfold Cur
  have e : p.kids.take (0 + 1) = [p.kids[0]] := by
    rw [List.take_succ_eq_append_getElem hk]; simp
  rw [e, rowM_one]
  constructor
  · rintro ⟨h1, h2, _⟩
    exact ⟨h1, (h2 h5).resolve_left (by omega)⟩
  · rintro ⟨h1, h2⟩
    exact ⟨h1, fun _ => .inr h2, fun h => absurd h5 h⟩
theorem cur_and {s : ByteArray} {p : Pat} (h5 : p.op ≠ 5) (o k x : Nat) (hk : k < p.kids.length) : Cur s p o (k + 1) x ↔ Cur s p o k x ∧ p.kids[k].M s o x := by
  unfold Cur
  rw [allM_iff, allM_iff, List.take_succ_eq_append_getElem hk]
  constructor
  · rintro ⟨h1, _, h3⟩
    exact ⟨⟨h1, fun h => absurd h h5, fun _ q hq => h3 h5 q (List.mem_append_left _ hq)⟩, h3 h5 _ (List.mem_append_right _ (List.mem_singleton.2 rfl))⟩
  · rintro ⟨⟨h1, _, h3⟩, h4⟩
    refine ⟨h1, fun h => absurd h h5, fun _ q hq => ?_⟩
    rcases List.mem_append.1 hq with hq | hq
    · exact h3 h5 q hq
    · rw [List.mem_singleton] at hq; subst hq; exact h4
theorem cur_all {s : ByteArray} {p : Pat} (hop : p.op = 4 ∨ p.op = 5) (hl : p.op = 5 → p.kids.length = 1) (o x : Nat) (hx : x ≤ s.size) : Cur s p o p.kids.length x ↔ p.M s o x := by
  unfold Cur
  rw [List.take_length]
  rcases hop with h | h
  · rw [M_and h]
    constructor
    · rintro ⟨h1, _, h3⟩; exact ⟨by omega, by omega, h3 (by omega)⟩
    · rintro ⟨h1, _, h3⟩; exact ⟨by omega, fun h2 => by omega, fun _ => h3⟩
  · rw [M_not h]
    have := hl h
    constructor
    · rintro ⟨h1, h2, _⟩; exact ⟨by omega, by omega, (h2 h).resolve_left (by omega)⟩
    · rintro ⟨h1, _, h3⟩; exact ⟨by omega, fun _ => .inr h3, fun h2 => absurd h h2⟩
/-- The row that has one place alone. -/
theorem go_one {n : Nat} {R : Int → Int → Prop} {o : Nat} {g : Nat → Bool} (ho : o ≤ n) (h : Go n R (fun i => i == o) g) (x : Nat) (hx : x ≤ n) : g x = true ↔ R o x := by
  rw [h x hx]
  constructor
  · rintro ⟨y, _, h1, h2⟩
    simp at h1
    subst h1; exact h2
  · intro h1
    exact ⟨o, ho, by simp, h1⟩
/-- What stays while 'apart' runs: the node's box, and the row that has one place. -/
structure ApI (p : Pat) (ks : Value) (w wr : World) (N n o : Nat) : Prop where
  below : Below N w wr
  box : wr.heap[N]? = some (.cells #[.int .i64 p.op, .int .u64 (wd p.set 0), .int .u64 (wd p.set 1), .int .u64 (wd p.set 2), .int .u64 (wd p.set 3), .int .i64 p.lo, .int .i64 p.hi, ks] 36 (0, 0))
  row : Blk wr (N + 1) n (fun i => i == o)
  big : N + 3 ≤ wr.heap.size
theorem ApI.next {p : Pat} {ks : Value} {w wr w' : World} {N n o : Nat} (h : ApI p ks w wr N n o) (hb : Below wr.heap.size wr w') : ApI p ks w w' N n o :=
  ⟨h.below.trans (hb.mono (by have := h.big; omega)), (hb.block N (by have := h.big; omega)).trans h.box, h.row.below hb, by have := h.big; have := hb.size; omega⟩
theorem ApI.set {p : Pat} {ks : Value} {w wr : World} {N n o : Nat} (h : ApI p ks w wr N n o) (i : Nat) (v : Value) : ApI p ks w (wr.setCell ⟨N + 2, i, none⟩ v) N n o :=
  ⟨h.below.setCell (p := ⟨N + 2, i, none⟩) (by show N ≤ N + 2; omega) v, (Below.heap_setCell _ _ _ _ (by show N ≠ N + 2; omega)).trans h.box, h.row.other (by show N + 1 ≠ N + 2; omega) v, by have := h.big; simpa using this⟩
/-- New values up to a place, elder ones behind it. -/
def mix (o j : Nat) (new old : Nat → Bool) (i : Nat) : Bool := bif decide (o ≤ i ∧ i < j) then new i else old i
theorem mix_start (o : Nat) (new old : Nat → Bool) : mix o o new old = old := by
  funext i
  unfold mix
  have : ¬ (o ≤ i ∧ i < o) := by omega
  simp [this]
theorem mix_at {o j : Nat} {new old : Nat → Bool} (h : o ≤ j) : mix o (j + 1) new old j = new j := by simp [mix, h]
theorem mix_other {o j i : Nat} {new old : Nat → Bool} (h : i ≠ j) : mix o j new old i = mix o (j + 1) new old i := by
  unfold mix
  have : (o ≤ i ∧ i < j) ↔ (o ≤ i ∧ i < j + 1) := by omega
  simp only [this]
theorem mix_old {o j : Nat} {new old : Nat → Bool} : mix o j new old j = old j := by simp [mix]
theorem mix_all {o n x : Nat} {new old : Nat → Bool} (hx : x < n) : mix o n new old x = bif decide (o ≤ x) then new x else old x := by simp [mix, hx]
/-- A kid lets through what it matches. -/
theorem cur_step {s : ByteArray} {p : Pat} {o k n : Nat} (hl : p.op = 5 → p.kids.length = 1) (hk : k < p.kids.length) (ho : o ≤ s.size) (hn : s.size + 1 = n) {h g : Nat → Bool} (hh : ∀ x, x ≤ s.size → (h x = true ↔ Cur s p o k x)) (hg : Go s.size (p.kids[k].M s) (fun i => i == o) g) (new : Nat → Bool)
    (hnew : ∀ i, new i = bif p.op == 5 then !g i else h i && g i) : ∀ x, x ≤ s.size → (mix o n new h x = true ↔ Cur s p o (k + 1) x) := by
  intro x hx
  have hgx := go_one ho hg x hx
  rw [mix_all (by omega), hnew]
  by_cases h5 : p.op = 5
  · rw [cur_not h5 (hl h5) o k x hk, h5]
    by_cases hox : o ≤ x
    · simp only [hox, decide_true, cond_true, true_and, beq_self_eq_true, Bool.not_eq_true', ← hgx, Bool.not_eq_true]
    · have : ¬ h x = true := fun e => hox ((hh x hx).1 e).1
      simp only [hox, decide_false, cond_false, false_and]
      simpa using this
  · have hb : (p.op == 5) = false := by simpa using h5
    rw [cur_and h5 o k x hk, hb]
    by_cases hox : o ≤ x
    · simp only [hox, decide_true, cond_true, cond_false, Bool.and_eq_true, hgx, hh x hx]
    · have h1 : ¬ h x = true := fun e => hox ((hh x hx).1 e).1
      have h2 : ¬ Cur s p o k x := fun h => hox h.1
      simp only [hox, decide_false, cond_false, h2, false_and]
      simpa using h1
set_option maxHeartbeats 4000000 in
theorem apart_any (s : ByteArray) (n : Nat) (p : Pat) (hop : p.op = 4 ∨ p.op = 5) (hl : p.op = 5 → p.kids.length = 1) (hn : s.size + 1 = n) (hsz : s.size ≤ 90) (hkl : p.kids.length ≤ 10000) (H : ∀ q ∈ p.kids, FromC s n q)
    (ks : Value) (w : World) (o : Nat) (ho : o ≤ s.size) (hk : Kids w p.kids ks) :
    Calls Tryd.prog 71 #[(.agg #[.int .i64 p.op, .int .u64 (wd p.set 0), .int .u64 (wd p.set 1), .int .u64 (wd p.set 2), .int .u64 (wd p.set 3), .int .i64 p.lo, .int .i64 p.hi, ks]), .string s, .int .i64 o] w fun e w' => ∃ r g, e = .returned (.slice (some ⟨r, 0, none⟩) n n) ∧ Hid (w.heap.size ≤ r) ∧ Hid (Blk w' r n g) ∧ Hid (∀ x, x ≤ s.size → (g x = true ↔ p.M s o x)) ∧ Hid (Below w.heap.size w w') := by
  obtain ⟨a, cap, rfl⟩ := hk.len
  obtain ⟨N, hN⟩ : ∃ N, w.heap.size = N := ⟨_, rfl⟩
  have hmk := make_bools (c := (s.size : Int) + 1) (n := n) (by omega) (by omega)
  have HL := Lib.hid (hop : p.op = 4 ∨ p.op = 5)
  have HL2 := Lib.hid hl
  have HC := Lib.hid H
  have HK := Lib.hid (show ∀ wr, Below N w wr → Kids wr p.kids (.slice a p.kids.length cap) from fun wr hbr => hk.below (by rw [hN]; exact hbr))
  have hs2 : ((w.alloc (.cells #[.int .i64 p.op, .int .u64 (wd p.set 0), .int .u64 (wd p.set 1), .int .u64 (wd p.set 2), .int .u64 (wd p.set 3), .int .i64 p.lo, .int .i64 p.hi, .slice a p.kids.length cap] 36)).alloc (.cells (Places n fun _ => false) 4)).heap.size = N + 2 := by simp [hN]
  have hb2 : Below N w ((w.alloc (.cells #[.int .i64 p.op, .int .u64 (wd p.set 0), .int .u64 (wd p.set 1), .int .u64 (wd p.set 2), .int .u64 (wd p.set 3), .int .i64 p.lo, .int .i64 p.hi, .slice a p.kids.length cap] 36)).alloc (.cells (Places n fun _ => false) 4)) := by rw [← hN]; exact below2 w _ _
  have hx2 : ((w.alloc (.cells #[.int .i64 p.op, .int .u64 (wd p.set 0), .int .u64 (wd p.set 1), .int .u64 (wd p.set 2), .int .u64 (wd p.set 3), .int .i64 p.lo, .int .i64 p.hi, .slice a p.kids.length cap] 36)).alloc (.cells (Places n fun _ => false) 4)).heap[N]? = some (.cells #[.int .i64 p.op, .int .u64 (wd p.set 0), .int .u64 (wd p.set 1), .int .u64 (wd p.set 2), .int .u64 (wd p.set 3), .int .i64 p.lo, .int .i64 p.hi, .slice a p.kids.length cap] 36 (0, 0)) := by
    rw [heap_alloc_old _ _ (by simp; omega), ← hN]; exact heap_alloc_new w _
  have hr2 : Blk ((w.alloc (.cells #[.int .i64 p.op, .int .u64 (wd p.set 0), .int .u64 (wd p.set 1), .int .u64 (wd p.set 2), .int .u64 (wd p.set 3), .int .i64 p.lo, .int .i64 p.hi, .slice a p.kids.length cap] 36)).alloc (.cells (Places n fun _ => false) 4)) (N + 1) n (fun _ => false) := by
    have := Blk.new (w.alloc (.cells #[.int .i64 p.op, .int .u64 (wd p.set 0), .int .u64 (wd p.set 1), .int .u64 (wd p.set 2), .int .u64 (wd p.set 3), .int .i64 p.lo, .int .i64 p.hi, .slice a p.kids.length cap] 36)) n (fun _ => false)
    rw [World.size_alloc, hN] at this
    exact this
  clear hk hl H hop
  rw [hN]
  go_enter Tryd.func71, Tryd.ntmps71
  go_upto_region 2 with fail
  generalize hw2 : (w.alloc (.cells #[.int .i64 p.op, .int .u64 (wd p.set 0), .int .u64 (wd p.set 1), .int .u64 (wd p.set 2), .int .u64 (wd p.set 3), .int .i64 p.lo, .int .i64 p.hi, .slice a p.kids.length cap] 36)).alloc (.cells (Places n fun _ => false) 4) = w2 at *
  clear hw2
  have HS2 := Lib.hid hs2
  have HB2 := Lib.hid hb2
  have HX2 := Lib.hid hx2
  have HR2 := Lib.hid hr2
  have cl := hr2.cell (i := o) (by omega)
  have fl : w2.frozen? ⟨N + 1, o, none⟩ = false := hr2.frozen
  clear hb2 hx2 hr2
  go_upto_region 4 with fail
  have hA4 : ApI p (.slice a p.kids.length cap) w ((w2.setCell ⟨N + 1, o, none⟩ (.bool true)).alloc (.cells (Places n fun _ => false) 4)) N n o := by
    have h1 : Below N w2 (w2.setCell ⟨N + 1, o, none⟩ (.bool true)) := (Below.refl _ _).setCell (p := ⟨N + 1, o, none⟩) (by show N ≤ N + 1; omega) _
    have h2 : (w2.setCell ⟨N + 1, o, none⟩ (.bool true)).heap.size = N + 2 := by simpa using HS2.out
    have h3 : Blk (w2.setCell ⟨N + 1, o, none⟩ (.bool true)) (N + 1) n (fun i => i == o) := HR2.out.set (by simp) (fun i _ hne => by simp [hne])
    refine ⟨(HB2.out.trans h1).alloc (by omega) _, ?_, ?_, by simp; omega⟩
    · rw [heap_alloc_old _ _ (by omega), Below.heap_setCell _ _ _ _ (by show N ≠ N + 1; omega)]; exact HX2.out
    · unfold Blk
      rw [heap_alloc_old _ _ (by omega)]; exact h3
  have hO4 : Blk ((w2.setCell ⟨N + 1, o, none⟩ (.bool true)).alloc (.cells (Places n fun _ => false) 4)) (N + 2) n (fun _ => false) := by
    have := Blk.new (w2.setCell ⟨N + 1, o, none⟩ (.bool true)) n (fun _ => false)
    have h2 : (w2.setCell ⟨N + 1, o, none⟩ (.bool true)).heap.size = N + 2 := by simpa using HS2.out
    rw [h2] at this
    exact this
  generalize hw4 : (w2.setCell ⟨N + 1, o, none⟩ (.bool true)).alloc (.cells (Places n fun _ => false) 4) = w4 at *
  clear hw4 cl fl HS2 HB2 HX2 HR2 hmk hs2
  have HA4 := Lib.hid hA4
  have HO4 := Lib.hid hO4
  clear hA4 hO4
  go_wp2
  go_loopw [9] (fun x wr => ∃ k : Nat, x = .int .i64 k ∧ o ≤ k ∧ k ≤ n ∧ Hid (ApI p (.slice a p.kids.length cap) w wr N n o) ∧ Hid (Blk wr (N + 2) n (mix o k (fun _ => true) (fun _ => false)))) (fun x _ => n - (intOf x).toNat)
  case atStart => exact ⟨o, rfl, Nat.le_refl _, by omega, HA4, Lib.hid (by rw [mix_start]; exact HO4.out)⟩
  case round =>
    obtain ⟨k, rfl, hok, hkn, HA, HO⟩ := hrel
    by_cases hlt : k < n
    · have cn := HO.out.cell hlt
      have fn : wr.frozen? ⟨N + 2, k, none⟩ = false := HO.out.frozen
      rw [mix_old] at cn
      have HNX : Hid (Blk (wr.setCell ⟨N + 2, k, none⟩ (.bool true)) (N + 2) n (mix o (k + 1) (fun _ => true) (fun _ => false))) := Lib.hid (HO.out.set (mix_at hok) fun i _ hne => mix_other hne)
      have HAX := Lib.hid (HA.out.set k (.bool true))
      have hd : decide ((k : Int) < n) = true := by simpa using hlt
      go_wp2
      go_roundw
      case rel => exact ⟨k + 1, num_succ k, by omega, by omega, HAX, HNX⟩
      case measure => simp [intOf]; omega
    · obtain rfl : k = n := by omega
      have hd : decide ((k : Int) < k) = false := by simp
      have HQ0 : Hid (∀ x, x ≤ s.size → (mix o k (fun _ => true) (fun _ => false) x = true ↔ Cur s p o 0 x)) := Lib.hid (fun x hx => by
        rw [cur_zero, mix_all (by omega)]
        by_cases h : o ≤ x <;> simp [h])
      go_wp2
      go_loopw [10] (fun x wr => ∃ (m : Nat) (h : Nat → Bool), x = .int .i64 m ∧ m ≤ p.kids.length ∧ Hid (ApI p (.slice a p.kids.length cap) w wr N k o) ∧ Hid (Blk wr (N + 2) k h) ∧ Hid (∀ x, x ≤ s.size → (h x = true ↔ Cur s p o m x))) (fun x _ => p.kids.length - (intOf x).toNat)
      case atStart => exact ⟨0, _, rfl, Nat.zero_le _, HA, HO, HQ0⟩
      case round =>
        clear HQ0 HO HA
        obtain ⟨m, h, rfl, hm, HA, HO, HQ⟩ := hrel
        obtain ⟨c0, c1, c2, c3, c4, c5, c6, c7⟩ := box8 HA.out.box
        by_cases hml : m < p.kids.length
        · have hd2 : decide ((m : Int) < p.kids.length) = true := by simpa using hml
          obtain ⟨b', o', cap', e, hr⟩ := (HK.out _ HA.out.below).row (by omega)
          rw [e] at c7
          clear e
          obtain ⟨ks', hks, e0, e1, e2, e3, e4, e5, e6, e7⟩ := (hr.at m hml).load
          have HCC := Lib.hid (HC.out _ (List.getElem_mem hml) ks' _ (N + 1) _ hks HA.out.row)
          have HST := Lib.hid (fun (g new : Nat → Bool) => cur_step (s := s) (p := p) (o := o) (k := m) (n := k) HL2.out hml ho hn HQ.out (g := g) (new := new))
          generalize p.kids[m] = q at *
          have HBIG := Lib.hid HA.out.big
          clear hks hr
          go_wp2_with (go_at_call 62; refine HCC.out.mono ?_; rintro e w5 ⟨r5, g5, rfl, HR5, HBL5, HG5, HBW5⟩; have HA5 := Lib.hid (HA.out.next HBW5.out); have HO5 := Lib.hid (HO.out.below HBW5.out))
          have HNW : Hid (∃ new : Nat → Bool, ∀ i, new i = bif p.op == 5 then !g5 i else h i && g5 i) := Lib.hid ⟨_, fun _ => rfl⟩
          obtain ⟨new, hnew⟩ := HNW.out
          have HNEW := Lib.hid hnew
          have HDONE := Lib.hid (HST.out g5 new HG5.out hnew)
          clear hnew HNW HST c0 c1 c2 c3 c4 c5 c6 c7 HA HO HQ hd hd2
          go_loopw [12] (fun x wr2 => ∃ j : Nat, x = .int .i64 j ∧ o ≤ j ∧ j ≤ k ∧ Hid (ApI p (.slice a p.kids.length cap) w wr2 N k o) ∧ Hid (Blk wr2 (N + 2) k (mix o j new h)) ∧ Hid (Blk wr2 r5 k g5)) (fun x _ => k - (intOf x).toNat)
          case atStart => exact ⟨o, rfl, Nat.le_refl _, by omega, HA5, Lib.hid (by rw [mix_start]; exact HO5.out), HBL5⟩
          case round =>
            clear HA5 HO5 HBL5
            obtain ⟨j, rfl, hoj, hjk, HA, HO, HG⟩ := hrel
            by_cases hjl : j < k
            · have hd3 : decide ((j : Int) < k) = true := by simpa using hjl
              obtain ⟨c0, _⟩ := box8 HA.out.box
              have cn := HO.out.cell hjl
              have cg := HG.out.cell hjl
              rw [mix_old] at cn
              have HNJ := Lib.hid (HNEW.out j)
              have HRN : Hid (r5 ≠ N + 2) := Lib.hid (by have := HR5.out; have := HBIG.out; omega)
              have fn : wr.frozen? ⟨N + 2, j, none⟩ = false := HO.out.frozen
              have HNX : Hid (∀ v, new j = v → Blk (wr.setCell ⟨N + 2, j, none⟩ (.bool v)) (N + 2) k (mix o (j + 1) new h)) := Lib.hid fun v hv => HO.out.set ((mix_at hoj).trans hv) fun i _ hne => mix_other hne
              have HAX : Hid (∀ v, ApI p (.slice a p.kids.length cap) w (wr.setCell ⟨N + 2, j, none⟩ v) N k o) := Lib.hid fun v => HA.out.set j v
              have HGX : Hid (∀ v, Blk (wr.setCell ⟨N + 2, j, none⟩ v) r5 k g5) := Lib.hid fun v => HG.out.other (a := ⟨N + 2, j, none⟩) HRN.out v
              clear HA HO HG
              by_cases h5 : p.op = 5
              · rw [h5] at c0
                have HV : Hid (new j = !g5 j) := Lib.hid (by rw [HNJ.out, h5]; rfl)
                have HN1 := Lib.hid (HNX.out _ HV.out)
                clear HNX HV HNJ h5
                generalize g5 j = y at *
                cases y
                all_goals
                  go_wp2
                  go_roundw
                  case rel => exact ⟨j + 1, num_succ j, by omega, by omega, Lib.hid (HAX.out _), HN1, Lib.hid (HGX.out _)⟩
                  case measure => simp [intOf]; omega
              · have hb5 : (p.op == 5) = false := by simpa using h5
                have HV : Hid (new j = (h j && g5 j)) := Lib.hid (by rw [HNJ.out, hb5]; rfl)
                have HN1 := Lib.hid (HNX.out _ HV.out)
                clear HNX HV HNJ h5
                generalize g5 j = y at *
                generalize h j = x at *
                cases x <;> cases y
                all_goals
                  go_wp2
                  go_roundw
                  case rel => exact ⟨j + 1, num_succ j, by omega, by omega, Lib.hid (HAX.out _), HN1, Lib.hid (HGX.out _)⟩
                  case measure => simp [intOf]; omega
            · obtain rfl : j = k := by omega
              have hd3 : decide ((j : Int) < j) = false := by simp
              go_wp2
              go_roundw
              case rel => exact ⟨m + 1, mix o j new h, num_succ m, by omega, HA, HO, HDONE⟩
              case measure => simp [intOf]; omega
        · obtain rfl : m = p.kids.length := by omega
          have hd2 : decide ((p.kids.length : Int) < p.kids.length) = false := by simp
          go_wp2
          exact bodyPost_ret (v := .slice (some ⟨N + 2, 0, none⟩) k k) (by simp [results, Tryd.results71, go_sem, *]) rfl ⟨N + 2, h, rfl, Lib.hid (by omega), HO, Lib.hid (fun x hx => by rw [HQ.out x hx, cur_all HL.out HL2.out o x hx]), Lib.hid HA.out.below⟩
end Go.Proofs.YtpfhhdiipedklaaDoor
