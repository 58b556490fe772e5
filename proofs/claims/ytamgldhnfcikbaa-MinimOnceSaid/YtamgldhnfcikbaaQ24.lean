/- Texts that a proof rests on: The contract of the reference's Least. | The law's example: its values. -/
import Derived.Test.YtamgldhnfcikbaaK22
set_option maxRecDepth 100000
namespace Go.Proofs.Ytamgldhnfcikbaa
open Go.RowKit

def LeastQ (m : List Sta) (N : Nat) (w : World) (e : Ending) (w' : World) : Prop := ∃ u K, e = .returned u ∧ Hid (MachAt w' u K) ∧ Hid (LeastR m K) ∧ Hid (Below N w w')
end Go.Proofs.Ytamgldhnfcikbaa
set_option maxRecDepth 100000
namespace Go.Proofs.Ytamgldhnfcikbaa
open Go.RowKit

deriving instance DecidableEq for Arc3
deriving instance DecidableEq for Sta
def exM : List Sta := [⟨0, [⟨97, 97, 1⟩, ⟨98, 98, 2⟩]⟩, ⟨1, []⟩, ⟨1, []⟩, ⟨0, []⟩]
def exL : List Sta := [⟨0, [⟨97, 98, 1⟩]⟩, ⟨1, []⟩]
def clsX (i : Nat) : Nat := if i = 0 then 0 else if i < 3 then 1 else 2
def exD (i k : Nat) : Bool := clsX i != clsX k
theorem ex_sound : soundS exM = exM := by unfold soundS; rw [if_pos (by decide +kernel)]
theorem exL_sound : soundS exL = exL := by unfold soundS; rw [if_pos (by decide +kernel)]
theorem nil_sound : soundS [] = [] := by unfold soundS; split <;> rfl
theorem ex_mays : Mays exM := fun s hs => by
  simp only [exM, List.mem_cons, List.not_mem_nil, or_false] at hs
  rcases hs with rfl | rfl | rfl | rfl <;> refine ⟨by decide, fun a ha => ?_⟩ <;> simp only [List.mem_cons, List.not_mem_nil, or_false] at ha
  rcases ha with rfl | rfl <;> exact ⟨by decide, by decide, by decide, by decide⟩
theorem exL_mays : Mays exL := fun s hs => by
  simp only [exL, List.mem_cons, List.not_mem_nil, or_false] at hs
  rcases hs with rfl | rfl <;> refine ⟨by decide, fun a ha => ?_⟩ <;> simp only [List.mem_cons, List.not_mem_nil, or_false] at ha
  subst ha; exact ⟨by decide, by decide, by decide, by decide⟩
theorem ex_len : ∀ s ∈ exM, s.arcs.length < 9223372036854775808 := fun s hs => by
  simp only [exM, List.mem_cons, List.not_mem_nil, or_false] at hs
  rcases hs with rfl | rfl | rfl | rfl <;> decide
theorem exL_len : ∀ s ∈ exL, s.arcs.length < 9223372036854775808 := fun s hs => by
  simp only [exL, List.mem_cons, List.not_mem_nil, or_false] at hs
  rcases hs with rfl | rfl <;> decide
theorem ex_table : TableD exM exD := by
  have h1 : ∀ i, i < 5 → ∀ k, k < 5 → exD i k = true → accS exM (i : Nat) ≠ accS exM (k : Nat) ∨ accS exM (runFrom exM (i : Nat) [97]) ≠ accS exM (runFrom exM (k : Nat) [97]) := by decide +kernel
  have h2 : ∀ i, i < 5 → ∀ b, b < 256 → nextS exM (i : Nat) b < exM.length := by decide +kernel
  have h3 : ∀ i, i < 5 → ∀ k, k < 5 → accS exM (i : Nat) ≠ accS exM (k : Nat) → exD i k = true := by decide +kernel
  have h4 : ∀ i, i < 5 → ∀ k, k < 5 → ∀ b, b < 256 → exD (tgtN exM i b) (tgtN exM k b) = true → exD i k = true := by decide +kernel
  intro i k hi hk
  have hi5 : i < 5 := Nat.lt_succ_of_le hi
  have hk5 : k < 5 := Nat.lt_succ_of_le hk
  constructor
  · intro h
    rw [apart_iff]
    rcases h1 i hi5 k hk5 h with h | h
    · exact ⟨[], fun b hb => by simp at hb, h⟩
    · exact ⟨[97], fun b hb => by simp at hb; omega, h⟩
  · intro h
    exact apart_table (m := exM) (fun i hi b hb => h2 i (Nat.lt_succ_of_le hi) b hb) (fun i k hi hk he => h3 i (Nat.lt_succ_of_le hi) k (Nat.lt_succ_of_le hk) he) (fun i k b hi hk hb he => h4 i (Nat.lt_succ_of_le hi) k (Nat.lt_succ_of_le hk) b hb he) hi hk h
theorem ex_leastR : LeastR exM exL := by
  refine .inr ⟨ex_sound, by decide, exD, ex_table, .inr ⟨0, 2, by decide +kernel, by decide +kernel, ?_⟩⟩
  decide +kernel
theorem ex_least {K : List Sta} (h : LeastP exM K) : K = exL := least_eq ex_mays h ex_leastR
theorem run_zero (m : List Sta) (t : List Nat) : accS m (runS m t) = accS m (runFrom m 0 t) := by
  unfold runS
  by_cases h : m.length = 0
  · have : m = [] := List.eq_nil_of_length_eq_zero h
    subst this
    have hz : ∀ s : Int, accS [] s = 0 := fun s => by unfold accS; split <;> simp
    rw [hz, hz]
  · rw [if_neg h]
theorem alike_dif {m n : List Sta} (h : AlikeS m n 0 0) : AlikeP m n true :=
  ⟨fun _ t ht hd => by
    unfold Dif at hd
    rw [run_zero, run_zero] at hd
    exact hd (alike_iff.1 h t ht), fun _ => rfl⟩
theorem alikeP_one {m n : List Sta} {a b : Bool} (h : AlikeP m n a) (k : AlikeP m n b) : a = b := by
  unfold AlikeP at h k
  have := h.trans k.symm
  cases a <;> cases b <;> simp_all
theorem walkK_first (next : Nat → Nat → Option Nat) (key : Nat → Nat) (s0 : Nat) : ∀ i, (walkK next key s0 i)[0]? = some s0
  | 0 => rfl
  | i + 1 => by
    obtain ⟨M, hM⟩ := walkK_step (next := next) (key := key) (s0 := s0) i
    have ih := walkK_first next key s0 i
    rw [hM, List.getElem?_append_left (List.getElem?_eq_some_iff.1 ih).1]; exact ih
theorem least_alike {m K : List Sta} (hm : Mays m) (h : LeastP m K) : AlikeS K (soundS m) 0 0 := by
  rcases h with ⟨h0, rfl⟩ | ⟨hs, h0, U, hU, h⟩
  · have : soundS m = [] := List.eq_nil_of_length_eq_zero h0
    rw [this]; exact AlikeS.refl _ _
  · have hf := (sound_len hm (by rw [hs]; exact h0)).2.1
    have hu := hU.none hf h0
    rw [hs]
    rcases h with ⟨hU0, _, rfl⟩ | ⟨hU0, hk, C, i, hC, hCn, hw, rfl⟩
    · have hdd : DeadS m ((0 : Nat) : Int) := by
        apply Classical.byContradiction
        intro h9
        rw [hu.2 h9] at hU0; cases hU0
      refine alike_iff.2 fun bs hb => ?_
      have h1 := hdd bs hb
      have hz : ∀ s : Int, accS [] s = 0 := fun s => by unfold accS; split <;> simp
      rw [hz]; exact h1.symm
    · have hft := trim_fits U hf
      have hlt := walkK_lt (key := C) (next := nextP (trimS U m)) (s0 := 0) (n := (trimS U m).length) hk (fun s b y hs _ h => nextP_lt hft hs h) i
      have h1 : AlikeS (leastK (accAt (trimS U m)) (nextP (trimS U m)) C (walkK (nextP (trimS U m)) C 0 i)) (trimS U m) ((0 : Nat) : Int) ((0 : Nat) : Int) :=
        leastK_alike (fun s _ => rfl) (fun s hs b _ hn => by
          rcases next_cases hft (hlt s hs) b with ⟨_, e⟩ | ⟨y, e, _⟩
          · rw [e]; exact fun bs _ => by rw [run_nowhere]; exact accS_none (.inl (by decide))
          · rw [hn] at e; cases e) (fun s hs b _ y hy => by
          rcases next_cases hft (hlt s hs) b with ⟨e, _⟩ | ⟨z, e, e2, _⟩
          · rw [hy] at e; cases e
          · rw [hy] at e; cases e
            rw [e2]; exact AlikeS.refl _ _) (fun s hs t ht b _ y hy hk2 => (hC s y (hlt s hs) (nextP_lt hft (hlt t ht) hy)).1 hk2) (walkK_closed hw) (walkK_first _ _ _ i)
      have h2 := hU.alike hf hU0 h0
      exact h1.trans h2
theorem ex_alike {K : List Sta} (hK : LeastP exM K) : AlikeP exM exL true := by
  have h1 := (least_alike ex_mays hK).symm
  rw [ex_sound, ex_least hK] at h1
  exact alike_dif h1
theorem ex_dif : Dif exM [] [97] := by unfold Dif; decide +kernel
theorem ex_diffs : DiffP exM [] [97] true := by
  have h1 : ¬ Dif exM [] [] := by unfold Dif; decide +kernel
  have h2 : ∀ b, b < 97 → ¬ Dif exM [] [b] := by unfold Dif; decide +kernel
  refine .inl ⟨rfl, fun b hb => by simp at hb; omega, ex_dif, fun t _ hd => ?_⟩
  match t, hd with
  | [], hd => exact absurd hd h1
  | [b], hd =>
    by_cases hb : b < 97
    · exact absurd hd (h2 b hb)
    · show 0 * 256 + 97 + 1 ≤ 0 * 256 + b + 1
      omega
  | a :: b :: u, _ =>
    have h := code_append [a] (b :: u)
    have e : code [a] = a + 1 := by show 0 * 256 + a + 1 = _; omega
    have h5 : 256 ≤ 256 ^ (b :: u).length := by rw [List.length_cons, Nat.pow_succ]; have := Nat.pow_pos (n := u.length) (show 0 < 256 by decide); omega
    have h6 : 256 ≤ code [a] * 256 ^ (b :: u).length := by rw [e, Nat.add_mul, Nat.one_mul]; omega
    have e2 : [a] ++ b :: u = a :: b :: u := rfl
    rw [e2] at h
    have : code [97] = 98 := rfl
    omega
theorem ex_nil : AlikeP exM [] false := by
  unfold AlikeP
  exact ⟨fun h => (by cases h), fun h => absurd ex_dif (h [97] (fun b hb => by simp at hb; omega))⟩
theorem ex_use (s : Nat) (hs : s < 4) : (Leads exM s ∧ Come exM s) ↔ s < 3 := by
  have hl1 : Leads exM 1 := .acc (by decide) (by decide)
  have hl2 : Leads exM 2 := .acc (by decide) (by decide)
  have hl0 : Leads exM 0 := .step (a := ⟨97, 97, 1⟩) (by decide) (by simp [exM]) hl1
  have hc0 : Come exM 0 := .first (by decide)
  have hc1 : Come exM 1 := .step (i := 0) (a := ⟨97, 97, 1⟩) (by decide) (by simp [exM]) hc0
  have hc2 : Come exM 2 := .step (i := 0) (a := ⟨98, 98, 2⟩) (by decide) (by simp [exM]) hc0
  constructor
  · rintro ⟨_, hc⟩
    have key : ∀ s, Come exM s → s < 3 := by
      intro s hc
      induction hc with
      | first _ => decide
      | @step i a h ha _ ih =>
        have : i = 0 ∨ i = 1 ∨ i = 2 := by omega
        rcases this with rfl | rfl | rfl
        · simp [exM] at ha
          rcases ha with rfl | rfl <;> decide
        · simp [exM] at ha
        · simp [exM] at ha
    exact key s hc
  · intro h
    have : s = 0 ∨ s = 1 ∨ s = 2 := by omega
    rcases this with rfl | rfl | rfl
    · exact ⟨hl0, hc0⟩
    · exact ⟨hl1, hc1⟩
    · exact ⟨hl2, hc2⟩
end Go.Proofs.Ytamgldhnfcikbaa
