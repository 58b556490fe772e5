/- Texts that a proof rests on: The walk of the law NfaClosed. -/
import Derived.Test.YtpfhhdiipedklaaDoorK41
import Derived.BigQuiet
set_option maxRecDepth 100000
namespace Go.Proofs.YtpfhhdiipedklaaDoor
open Go.RowKit

theorem drewN_below (w : World) (n : Nat) : Below w.heap.size w (w.drewN n) := ⟨rfl, rfl, rfl, Nat.le_refl _, fun _ _ => rfl⟩
theorem reach_idem {n : Nat} {E : List (Nat × Nat)} {L : List Int} {l : List Nat} (h : ∀ s, s ∈ l ↔ Reach n E L s) (s : Nat) : Reach n E (l.map fun x : Nat => (x : Int)) s ↔ Reach n E L s := by
  constructor
  · intro hr
    induction hr with
    | @base x h1 h2 h3 =>
      obtain ⟨y, hy, rfl⟩ := List.mem_map.1 h1
      have := (h y).1 hy
      simpa using this
    | step _ h1 h2 ih => exact .step ih h1 h2
  · intro hr
    have h1 := Reach.base (n := n) (E := E) (L := l.map fun x : Nat => (x : Int)) (List.mem_map.2 ⟨s, (h s).2 hr, rfl⟩) (by omega) (by have := hr.lt; omega)
    simpa using h1
/-- All steps of a built machine are between its states. -/
theorem built_ok {p : Pat} (hg : p.good = true) (hp : p.pln = true) : (∀ e ∈ (bld p M0).e, e.1 < p.cnt ∧ e.2 < p.cnt) ∧ (bld p M0).e.length ≤ 2 * p.cnt ∧ (bld p M0).a.length ≤ p.cnt := by
  have hf := bld_frag p (good_ok p hg) M0
  have hn : (bld p M0).n = p.cnt := by
    have := bld_n p hg hp M0
    simpa [M0] using this
  refine ⟨fun e he => ?_, ?_, ?_⟩
  · have := (hf.1.ok ⟨by simp [M0], by simp [M0]⟩).e e he
    rwa [hn] at this
  · have := hf.1.e
    rw [hn] at this
    have e0 : M0.e.length = 0 := rfl
    omega
  · have := hf.1.a
    rw [hn] at this
    have e0 : M0.a.length = 0 := rfl
    omega
/-- Build for a plain pattern: its machine, or too many states. -/
def PlainB (p : Pat) (N : Nat) (w : World) (e : Ending) (w' : World) : Prop :=
  ∃ (n : Int) (ae : Option Addr) (ne ce : Nat) (aa : Option Addr) (na ca : Nat) (x r : Int), e = .returned (.tuple #[.agg #[.int .i64 n, .slice ae ne ce, .slice aa na ca, .int .i64 0, .int .i64 x], .int .i64 r]) ∧
    Hid (r = 70 ∨ (r = 0 ∧ x = 1 ∧ n = p.cnt ∧ ne = (bld p M0).e.length ∧ na = (bld p M0).a.length ∧ p.cnt ≤ 4096 ∧ RowE w' (.slice ae ne ce) (bld p M0).e ∧ RowA w' (.slice aa na ca) (bld p M0).a)) ∧ Hid (Below N w w')
theorem nbuild_plain (p : Pat) (ks : Value) (w : World) (hs : p.size ≤ 64) (hk : Kids w p.kids ks) (hg : p.good = true ∧ p.pln = true) :
    Calls Tryd.prog 8 #[(.agg #[.int .i64 p.op, .int .u64 (wd p.set 0), .int .u64 (wd p.set 1), .int .u64 (wd p.set 2), .int .u64 (wd p.set 3), .int .i64 p.lo, .int .i64 p.hi, ks])] w (PlainB p w.heap.size w) := by
  have hf := good_fit p 1 hg.1 (by omega)
  by_cases hst : p.sta ≤ 4096
  · refine (nbuild_yes p ks w (by omega) hk hf hg.2 hst).mono ?_
    rintro e w' ⟨ae, ce, aa, ca, rfl, he, ha, hb⟩
    exact ⟨_, _, _, _, _, _, _, _, _, rfl, Lib.hid (.inr ⟨rfl, rfl, rfl, rfl, rfl, by rw [← sta_cnt p hst]; exact hst, he.out, ha.out⟩), hb⟩
  · refine (nbuild_great p ks w (by omega) hk hf hg.2 (by omega)).mono ?_
    rintro e w' ⟨rfl, hb⟩
    exact ⟨_, _, _, _, _, _, _, _, _, rfl, Lib.hid (.inl rfl), Lib.hid hb⟩
theorem take_in {l : List Nat} {m : Nat} (h : m < l.length) (x : Int) : decide (x ∈ (l.take (m + 1)).map fun x : Nat => (x : Int)) = (decide (x ∈ (l.take m).map fun x : Nat => (x : Int)) || decide ((l[m] : Int) = x)) := by
  rw [Bool.eq_iff_iff]
  rw [List.take_succ_eq_append_getElem h, List.map_append]
  simp only [List.mem_append, List.map_cons, List.map_nil, List.mem_singleton, Bool.or_eq_true, decide_eq_true_eq]
  exact or_congr Iff.rfl ⟨fun e => e.symm, fun e => e.symm⟩
/-- What is told of a row of closed states. -/
structure Shut2 (cnt : Nat) (E : List (Nat × Nat)) (L : List Int) (l : List Nat) : Prop where
  up : l.Pairwise (· < ·)
  all : ∀ s, s ∈ l ↔ Reach cnt E L s
theorem Shut2.lt {cnt : Nat} {E : List (Nat × Nat)} {L : List Int} {l : List Nat} (h : Shut2 cnt E L l) {i : Nat} (hi : i < l.length) : l[i] < cnt := ((h.all _).1 (List.getElem_mem hi)).lt
theorem Shut2.next {cnt : Nat} {E : List (Nat × Nat)} {L : List Int} {l : List Nat} (h : Shut2 cnt E L l) {i : Nat} (hi : i + 1 < l.length) : l[i] < l[i + 1] := List.pairwise_iff_getElem.1 h.up i (i + 1) (by omega) hi (by omega)
theorem Shut2.has {cnt : Nat} {E : List (Nat × Nat)} {L : List Int} {l : List Nat} (h : Shut2 cnt E L l) {x : Int} (hx : x ∈ L) : decide (x ∈ l.map fun x : Nat => (x : Int)) = (decide (0 ≤ x) && decide (x < cnt)) := by
  rw [Bool.eq_iff_iff, Bool.and_eq_true, decide_eq_true_iff, decide_eq_true_iff, decide_eq_true_iff]
  constructor
  · intro h1
    obtain ⟨y, hy, rfl⟩ := List.mem_map.1 h1
    have := ((h.all y).1 hy).lt
    omega
  · rintro ⟨h0, h1⟩
    exact List.mem_map.2 ⟨x.toNat, (h.all _).2 (.base hx h0 h1), by omega⟩
end Go.Proofs.YtpfhhdiipedklaaDoor
