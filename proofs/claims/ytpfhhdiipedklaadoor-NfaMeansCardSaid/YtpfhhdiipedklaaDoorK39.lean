/- Texts that a proof rests on: The reference's has and rising. -/
import Derived.Test.YtpfhhdiipedklaaDoorK30
import Derived.Test.YtpfhhdiipedklaaDoorK22
import Derived.Test.YtpfhhdiipedklaaDoorK38
set_option maxRecDepth 100000
namespace Go.Proofs.YtpfhhdiipedklaaDoor
open Go.RowKit

set_option maxHeartbeats 1000000 in
theorem shas_any (v : Value) (L : List Int) (x : Int) (w : World) (hl : L.length < 100000000) (hv : IntsAt w v L) :
    Calls Tryd.prog 32 #[v, .int .i64 x] w fun e w' => e = .returned (.bool (decide (x ∈ L))) ∧ w' = w := by
  obtain ⟨a, cap, rfl, hc⟩ := hv
  have HC := Lib.hid hc
  clear hc
  go_enter Tryd.func32, Tryd.ntmps32
  go_wp2
  go_loopw [5] (fun i wr => ∃ k : Nat, k ≤ L.length ∧ i = .int .i64 k ∧ Hid (∀ i (h : i < L.length), i < k → x ≠ L[i]) ∧ wr = w) (fun i _ => L.length - (intOf i).toNat)
  case atStart => exact ⟨0, by omega, rfl, Lib.hid fun i _ h => by omega, rfl⟩
  case round =>
    obtain ⟨k, hkl, rfl, HP, rfl⟩ := hrel
    by_cases hlt : k < L.length
    · have hdd : decide ((k : Int) < L.length) = true := by simpa using hlt
      obtain ⟨b, ob, rfl, hc2⟩ := HC.out k hlt
      have HM : Hid (x = L[k] → x ∈ L) := Lib.hid fun h => h ▸ List.getElem_mem hlt
      have HN : Hid (x ≠ L[k] → ∀ i (h : i < L.length), i < k + 1 → x ≠ L[i]) := Lib.hid fun h i hi hik => by
        rcases Nat.lt_succ_iff_lt_or_eq.1 hik with h1 | rfl
        · exact HP.out i hi h1
        · exact h
      clear HP
      generalize L[k] = y at *
      by_cases hxy : x = y
      · subst hxy
        have hbb : ((x : Int) == x) = true := by simp
        have HMM := Lib.hid (HM.out rfl)
        clear HM HN
        go_wp2
        go_ret
        refine ⟨?_, rfl⟩
        rw [decide_eq_true HMM.out]; rfl
      · have hbb : ((y : Int) == x) = false := by simpa using fun h => hxy h.symm
        have HNN := Lib.hid (HN.out hxy)
        clear HM HN
        go_wp2
        exact ⟨⟨k + 1, by omega, rfl, HNN, trivial⟩, by simp only [intOf]; omega⟩
    · have hdd : decide ((k : Int) < L.length) = false := by simpa using hlt
      have HA : Hid (x ∉ L) := Lib.hid fun h => by
        obtain ⟨i, hi, e⟩ := List.getElem_of_mem h
        exact HP.out i hi (by omega) e.symm
      clear HP
      go_wp2
      go_ret
      refine ⟨?_, rfl⟩
      rw [decide_eq_false HA.out]; rfl
/-- What rising gives. -/
def RRise (n : Nat) (f : Nat → Bool) (N : Nat) (w : World) (e : Ending) (w' : World) : Prop := ∃ v, e = .returned v ∧ Hid (w'.ownsRow N 3 1 v (placesOf n f).length ((placesOf n f).map (Value.int .i64))) ∧ Hid (Below N w w')
set_option linter.unusedSimpArgs false in
set_option maxHeartbeats 4000000 in
theorem rrising_any (n b : Nat) (f : Nat → Bool) (w : World) (hn : n ≤ 100000) (hb : Blk w b n f) :
    Calls Tryd.prog 30 #[.slice (some ⟨b, 0, none⟩) n n] w (RRise n f w.heap.size w) := by
  obtain ⟨i0, hi0, hz0, hz1, hz2⟩ := info_parts infoInt
  have HI := Lib.hid (And.intro hi0 (And.intro hz0 (And.intro hz1 hz2)))
  clear hi0 hz0 hz1 hz2
  obtain ⟨B, hB⟩ : ∃ B, w.heap.size = B := ⟨_, rfl⟩
  have hbB : b < B := by have := hb.lt; omega
  have hBw : B ≤ w.heap.size := by omega
  have HBL := Lib.hid hb
  have HBW := Lib.hid (Below.refl B w)
  have HROW0 : Hid (w.ownsRow B 3 1 (.slice none 0 0) (placesOf 0 f).length ((placesOf 0 f).map (Value.int .i64))) := Lib.hid (World.ownsRow_nil _ _ _ _)
  clear hb
  rw [hB]
  go_enter Tryd.func30, Tryd.ntmps30
  go_wp2
  go_loopw [3, 4] (fun v x wr => ∃ (k : Nat), x = .int .i64 k ∧ k ≤ n ∧ B ≤ wr.heap.size ∧ Hid (wr.ownsRow B 3 1 v (placesOf k f).length ((placesOf k f).map (Value.int .i64))) ∧ Hid (Blk wr b n f) ∧ Hid (Below B w wr)) (fun _ x _ => n - (intOf x).toNat)
  case atStart => exact ⟨0, rfl, Nat.zero_le _, hBw, HROW0, HBL, HBW⟩
  case round =>
    clear HROW0 HBL HBW hBw
    obtain ⟨k, rfl, hk, hBr, HROW, HBL, HBR⟩ := hrel
    by_cases hlt : k < n
    · have hd : decide ((k : Int) < n) = true := by simpa using hlt
      have cg := HBL.out.cell hlt
      cases hgk : f k
      · have HNO := Lib.hid (placesOf_no hgk)
        rw [hgk] at cg
        clear hgk
        go_wp2
        go_roundw
        case rel => exact ⟨k + 1, num_succ k, by omega, hBr, by rw [HNO.out]; exact HROW, HBL, HBR⟩
        case measure => simp [intOf]; omega
      · have HYES := Lib.hid (placesOf_yes hgk)
        have hln := placesOf_len k f
        rw [hgk] at cg
        clear hgk
        obtain ⟨ln, hlne⟩ : ∃ ln, (placesOf k f).length = ln := ⟨_, rfl⟩
        rw [hlne] at hln HROW
        have HRA := Lib.hid (HROW.out.alloc (.cells #[.int .i64 k] 3))
        go_wp2_with (at_builtin; refine wpList_append_lies _ rfl _ _ 22 rfl B 3 i0 (.int .i64 0) 1 8 Tryd.underlying22 HI.out.1 HI.out.2.1 HI.out.2.2.1 HI.out.2.2.2 rfl (by decide) u3 ln ((placesOf k f).map (Value.int .i64)) rfl HRA.out ⟨wr.heap.size, 0, none⟩ 1 1 [.int .i64 k] rfl rfl (one_newsI (heap_alloc_new wr _)) (by simp [Value.oneCell']) (by omega) (by unfold maxLen; omega) (by omega) (by simp; omega) (wr.heap.size + 1) (by simp) ?_; intro g cap2 w8 h2 h3 h4 h5; have HP1 := Lib.hid (push_row HBR.out HROW.out (Nat.le_refl B) (by omega) ((Below.refl _ _).alloc (Nat.le_refl _) _) h3 h2); have HP2 := Lib.hid (push_blk HBL.out HROW.out hbB ((Below.refl _ _).alloc (Nat.le_refl _) _) h3); have hsz8 := h3.size; have HP3 := Lib.hid h2; clear h2 h3 h4 h5)
        go_roundw
        case rel => exact ⟨k + 1, num_succ k, by omega, by simp at hsz8; omega, by
          rw [HYES.out]
          have := HP3.out
          simpa [hlne] using Lib.hid this, HP2, HP1⟩
        case measure => simp [intOf]; omega
    · obtain rfl : k = n := by omega
      have hd : decide ((k : Int) < k) = false := by simp
      go_wp2
      exact bodyPost_ret (v := u3) (by simp [results, Tryd.results30, go_sem, *]) rfl ⟨u3, rfl, HROW, HBR⟩
/-- One pass over the steps by nothing. -/
def pass1 (q : (Nat → Bool) × Bool) (e : Nat × Nat) : (Nat → Bool) × Bool := if q.1 e.1 = true ∧ q.1 e.2 = false then (fun y => q.1 y || y == e.2, true) else q
def passF (q : (Nat → Bool) × Bool) (E : List (Nat × Nat)) : (Nat → Bool) × Bool := E.foldl pass1 q
theorem passF_take {q : (Nat → Bool) × Bool} {E : List (Nat × Nat)} {i : Nat} (h : i < E.length) : passF q (E.take (i + 1)) = pass1 (passF q (E.take i)) E[i] := by
  unfold passF
  rw [List.take_succ_eq_append_getElem h, List.foldl_append]; rfl
theorem pass_ind {P : (Nat → Bool) × Bool → Prop} {E : List (Nat × Nat)} (h : ∀ q e, e ∈ E → P q → P (pass1 q e)) : ∀ q, P q → P (passF q E) := by
  induction E with
  | nil => exact fun q h => h
  | cons e es ih => exact fun q hq => ih (fun q e he => h q e (List.mem_cons_of_mem _ he)) _ (h q e (by simp) hq)
theorem pass_up (q : (Nat → Bool) × Bool) (e : Nat × Nat) (s : Nat) (h : q.1 s = true) : (pass1 q e).1 s = true := by
  unfold pass1; split
  · simp [h]
  · exact h
/-- What is told by a pass that did nothing, and by one that did something. -/
theorem pass_end (n : Nat) (S : Nat → Bool) (E : List (Nat × Nat)) (hE : ∀ e ∈ E, e.1 < n ∧ e.2 < n) : ((passF (S, false) E).2 = false → (passF (S, false) E).1 = S ∧ ∀ e ∈ E, S e.1 = true → S e.2 = true) ∧ ((passF (S, false) E).2 = true → unm n (passF (S, false) E).1 < unm n S) := by
  have h1 : ∀ (F : List (Nat × Nat)) (q : (Nat → Bool) × Bool), (passF q F).2 = false → q.2 = false ∧ (passF q F).1 = q.1 ∧ ∀ e ∈ F, q.1 e.1 = true → q.1 e.2 = true := by
    intro F
    induction F with
    | nil => exact fun q h => ⟨h, rfl, by simp⟩
    | cons e es ih =>
      intro q h
      obtain ⟨g1, g2, g3⟩ := ih (pass1 q e) h
      unfold pass1 at g1 g2 g3
      split at g1
      · cases g1
      · rename_i hne
        rw [if_neg hne] at g2 g3
        refine ⟨g1, ?_, fun e' he' => ?_⟩
        · show (passF (pass1 q e) es).1 = q.1
          unfold pass1; rw [if_neg hne]; exact g2
        · rcases List.mem_cons.1 he' with rfl | he'
          · intro h5
            cases h6 : q.1 e'.2 with
            | true => rfl
            | false => exact absurd ⟨h5, h6⟩ hne
          · exact g3 e' he'
  have h2 : ∀ (F : List (Nat × Nat)) (q : (Nat → Bool) × Bool), (∀ e ∈ F, e.1 < n ∧ e.2 < n) → unm n (passF q F).1 ≤ unm n q.1 ∧ ((passF q F).2 = true → q.2 = true ∨ unm n (passF q F).1 < unm n q.1) := by
    intro F
    induction F with
    | nil => exact fun q _ => ⟨Nat.le_refl _, fun h => .inl h⟩
    | cons e es ih =>
      intro q hF
      obtain ⟨g1, g2⟩ := ih (pass1 q e) (fun x hx => hF x (List.mem_cons_of_mem _ hx))
      show unm n (passF (pass1 q e) es).1 ≤ _ ∧ ((passF (pass1 q e) es).2 = true → _ ∨ unm n (passF (pass1 q e) es).1 < _)
      by_cases hc : q.1 e.1 = true ∧ q.1 e.2 = false
      · have e1 : (pass1 q e).1 = fun y => q.1 y || y == e.2 := by unfold pass1; rw [if_pos hc]
        rw [e1] at g1
        have := unm_mark (S := q.1) (s := e.2) n (hF e (by simp)).2 hc.2
        exact ⟨by omega, fun _ => .inr (by omega)⟩
      · have e1 : pass1 q e = q := by unfold pass1; rw [if_neg hc]
        rw [e1] at g1 g2 ⊢
        exact ⟨g1, g2⟩
  refine ⟨fun h => ?_, fun h => ?_⟩
  · obtain ⟨_, g2, g3⟩ := h1 E _ h
    exact ⟨g2, g3⟩
  · rcases (h2 E _ hE).2 h with h3 | h3
    · cases h3
    · exact h3
theorem pass_sound {n : Nat} {E : List (Nat × Nat)} {L : List Int} {q : (Nat → Bool) × Bool} (hE : ∀ e ∈ E, e.1 < n ∧ e.2 < n) (h : ∀ s, s < n → q.1 s = true → Reach n E L s) : ∀ s, s < n → (passF q E).1 s = true → Reach n E L s := by
  refine pass_ind (P := fun q => ∀ s, s < n → q.1 s = true → Reach n E L s) (fun q e he hq s hs h1 => ?_) q h
  unfold pass1 at h1
  split at h1
  · rename_i hc
    simp only [Bool.or_eq_true, beq_iff_eq] at h1
    rcases h1 with h1 | rfl
    · exact hq s hs h1
    · exact .step (hq e.1 (hE e he).1 hc.1) he hs
  · exact hq s hs h1
theorem pass_base {E : List (Nat × Nat)} {q : (Nat → Bool) × Bool} {s : Nat} (h : q.1 s = true) : (passF q E).1 s = true :=
  pass_ind (P := fun q => q.1 s = true) (fun q e _ hq => pass_up q e s hq) q h
/-- What is closed under the steps is all that is reached. -/
theorem closed_all {n : Nat} {E : List (Nat × Nat)} {L : List Int} {S : Nat → Bool} (hb : ∀ s, s < n → (s : Int) ∈ L → S s = true) (hc : ∀ e ∈ E, S e.1 = true → S e.2 = true) : ∀ s, Reach n E L s → S s = true := by
  intro s h
  induction h with
  | @base x h1 h2 h3 => exact hb x.toNat (by omega) (by rwa [Int.toNat_of_nonneg h2])
  | @step s t _ h1 h2 ih => exact hc (s, t) h1 ih
end Go.Proofs.YtpfhhdiipedklaaDoor
