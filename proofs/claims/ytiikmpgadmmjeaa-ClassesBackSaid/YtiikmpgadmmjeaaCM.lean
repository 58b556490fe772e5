/- The contract of classes.Back. -/
import Derived.Test.YtiikmpgadmmjeaaCK
set_option maxRecDepth 100000
namespace Go.Proofs.Ytiikmpgadmmjeaa
open Go.RowKit

theorem infoState : (Try.prog.info? 48).map (fun i => (i.zero, i.size, i.bytes)) = some (some (.agg #[.int .u64 0, .slice none 0 0]), 2, 32) := by kernel_rfl
set_option maxHeartbeats 4000000 in
theorem lmach_any (n : Nat) (caps : Array Value) (g : Nat → Sta) (w : World) (hn : n < 1000000) (p1 p2 p3 : Value) (hcap : caps = #[p1, p2, p3])
    (hcl : ∀ k, k < n → ∀ W, Below w.heap.size w W → Calls Try.prog 34 #[.int .i64 (k : Nat), p1, p2, p3] W fun e w' => ∃ v, e = .returned (.agg #[.int .u64 ((g k).acc : Nat), v]) ∧ Hid (w'.ownsRow W.heap.size 50 3 v (g k).arcs.length (flatA (g k).arcs)) ∧ Hid (Below W.heap.size W w')) :
    Calls Try.prog 33 #[.int .i64 n, .func (.func 34) #[] caps] w fun e w' => ∃ v vs, e = .returned v ∧ Hid (RowsM w' w.heap.size v vs ((List.range n).map g)) ∧ Hid (Below w.heap.size w w') := by
  subst hcap
  obtain ⟨i0, hi, hz0, hz1, hz2⟩ := info_parts infoState
  have HI := Lib.hid (⟨hi, hz0, hz1, hz2⟩ : Try.prog.info? 48 = some i0 ∧ i0.zero = some (.agg #[.int .u64 0, .slice none 0 0]) ∧ i0.size = 2 ∧ i0.bytes = 32)
  clear hi hz0 hz1 hz2
  obtain ⟨N, hN⟩ : ∃ N, w.heap.size = N := ⟨_, rfl⟩
  have HCL := Lib.hid hcl
  clear hcl
  have hNw : N ≤ w.heap.size := by omega
  rw [hN] at HCL ⊢
  clear hN
  go_enter Try.func33, Try.ntmps33
  go_wp2
  go_loopw [5, 6, 8] (fun u _ z wr => ∃ k : Nat, z = .int .i64 k ∧ k ≤ n ∧ N ≤ wr.heap.size ∧ Hid (∃ vs, RowsM wr N u vs ((List.range k).map g)) ∧ Hid (Below N w wr)) (fun _ _ z _ => n - (intOf z).toNat)
  case atStart => exact ⟨0, rfl, Nat.zero_le _, hNw, Lib.hid ⟨[], RowsM.nil _ _⟩, Lib.hid (Below.refl _ _)⟩
  case round =>
    clear hNw
    obtain ⟨k, rfl, hk, hNr, HR, HB⟩ := hrel
    by_cases hlt : k < n
    · have hd : decide ((k : Int) < n) = true := decide_eq_true (by omega)
      have HCK := Lib.hid (HCL.out k hlt wr HB.out)
      have HSN := Lib.hid (range_snoc g k)
      obtain ⟨vs, hvs⟩ := HR.out
      have HV := Lib.hid hvs
      have hlen : ((List.range k).map g).length = k := by simp
      have hown := hvs.own
      rw [hlen] at hown
      obtain ⟨a3, cp3, rfl⟩ := row_form hown
      clear hown hvs HR
      obtain ⟨xs, hxs⟩ : ∃ xs, (List.range k).map g = xs := ⟨_, rfl⟩
      rw [hxs] at HV HSN hlen
      clear hxs
      obtain ⟨⟨ac, ar⟩, hx⟩ : ∃ x, g k = x := ⟨_, rfl⟩
      rw [hx] at HCK HSN
      simp only at HCK
      obtain ⟨c, hc⟩ : ∃ c, ar.length = c := ⟨_, rfl⟩
      rw [hc] at HCK
      have HC := Lib.hid hc
      clear hx hc
      have HLEN := Lib.hid hlen
      clear hlen
      go_wp2_with (first
        | (go_at_call 34; (with_reducible refine HCK.out.mono ?_); rintro e w5 ⟨v5, rfl, hr5, hb5⟩; obtain ⟨a5, c5, rfl⟩ := row_form hr5.out; have HB5 := Lib.hid hb5.out; have HV5 := Lib.hid (HV.out.below HB5.out); have hN5 : N ≤ w5.heap.size := Nat.le_trans hNr HB5.out.size; have HROW5 : Hid (w5.ownsRow N 48 2 (.slice a3 k cp3) k (flatM vs)) := Lib.hid (by have := HV5.out.own; rw [HLEN.out] at this; exact this); have HRA := Lib.hid (HROW5.out.alloc (.cells #[.int .u64 (ac : Nat), .slice a5 c c5] 48)); have HU5 : Hid (w5.ownsRow N 50 3 (.slice a5 c c5) ar.length (flatA ar)) := Lib.hid (by rw [HC.out]; exact own_weak hr5.out hNr); clear hb5 hr5)
        | (at_builtin; refine wpList_append_lies _ rfl _ _ 22 rfl N 48 i0 (.agg #[.int .u64 0, .slice none 0 0]) 2 32 Try.underlying22 HI.out.1 HI.out.2.1 HI.out.2.2.1 HI.out.2.2.2 rfl (by decide) (.slice a3 k cp3) k (flatM vs) rfl HRA.out ⟨w5.heap.size, 0, none⟩ 1 1 [.int .u64 (ac : Nat), .slice a5 c c5] rfl rfl (news_in (cs := #[.int .u64 (ac : Nat), .slice a5 c c5]) (heap_alloc_new w5 _)) (by simp [Value.oneCell']) (by omega) (by unfold maxLen; omega) (by omega) (by simp; omega) (w5.heap.size + 1) (by simp) ?_; intro g2 cap2 w8 h2 h3 h4 h5; have HP1 := Lib.hid (push3 (HB.out.trans (HB5.out.mono hNr)) HROW5.out (Nat.le_refl N) hN5 ((Below.refl _ _).alloc (Nat.le_refl _) _) h3); have hsz8 := h3.size; have HP3 := Lib.hid (RowsM.push (s := ⟨ac, ar⟩) HV5.out HU5.out ((Below.refl _ _).alloc (Nat.le_refl _) _) h3 (by rw [HLEN.out]; exact h2)); clear h2 h3 h4 h5))
      exact ⟨⟨k + 1, rfl, hlt, by simp at hsz8; omega, Lib.hid ⟨_, by rw [HSN.out]; exact HP3.out⟩, HP1⟩, by simp only [intOf]; omega⟩
    · obtain rfl : k = n := by omega
      have hd : decide ((k : Int) < k) = false := by simp
      obtain ⟨vs, hvs⟩ := HR.out
      have HV := Lib.hid hvs
      clear hvs HR
      go_wp2
      exact bodyPost_ret (v := u5) (by simp [results, Try.results33, go_sem, *]) rfl ⟨u5, vs, rfl, HV, HB⟩
set_option maxHeartbeats 4000000 in
theorem back10_any (cls : Nat → Nat) (vT vE : Value) (T : List (List Int)) (es : List Nat) (w : World) (hT : TabOk T) (hTn : T.length < 1000000) (hc : ∀ b, b < 256 → cls b < 256) (h4 : TabAt w vT T) (h5 : EndsAt w vE es) :
    Calls Try.prog 16 #[.agg (U8s cls), vT, vE] w fun e w' => ∃ v vs, e = .returned v ∧ Hid (RowsM w' w.heap.size v vs (backS T cls es)) ∧ Hid (Below w.heap.size w w') := by
  obtain ⟨B0, hB⟩ : ∃ B, w.heap.size = B := ⟨_, rfl⟩
  obtain ⟨aT, cT, rfl⟩ := h4.len
  obtain ⟨aE, cE, rfl⟩ := h5.len
  obtain ⟨I0, hI0⟩ : ∃ I0, U8s cls = I0 := ⟨_, rfl⟩
  obtain ⟨w1, hw1⟩ : ∃ w1, ((w.alloc (.cells I0 24)).alloc (.cells #[.slice aT T.length cT] 31)).alloc (.cells #[.slice aE es.length cE] 35) = w1 := ⟨_, rfl⟩
  have hb1 : Below w.heap.size w w1 := by
    rw [← hw1]
    exact (((Below.refl _ w).alloc (Nat.le_refl _) _).alloc (by simp) _).alloc (by simp; omega) _
  have hU : UBlk w1 B0 cls := by
    rw [← hw1]; unfold UBlk
    rw [heap_alloc_old _ _ (by simp; omega), heap_alloc_old _ _ (by simp; omega), hI0, ← hB]; exact heap_alloc_new w _
  have hx2 : Bx w1 (B0 + 1) 31 (.slice aT T.length cT) := by
    rw [← hw1]; unfold Bx
    rw [heap_alloc_old _ _ (by simp; omega)]
    have := heap_alloc_new (w.alloc (.cells I0 24)) (.cells #[.slice aT T.length cT] 31)
    rw [World.size_alloc, hB] at this; exact this
  have hx3 : Bx w1 (B0 + 1 + 1) 35 (.slice aE es.length cE) := by
    rw [← hw1]; unfold Bx
    have := heap_alloc_new ((w.alloc (.cells I0 24)).alloc (.cells #[.slice aT T.length cT] 31)) (.cells #[.slice aE es.length cE] 35)
    rw [World.size_alloc, World.size_alloc, hB] at this; exact this
  have HLM := Lib.hid (lmach_any T.length #[.pointer (some ⟨B0, 0, none⟩), .pointer (some ⟨B0 + 1, 0, none⟩), .pointer (some ⟨B0 + 1 + 1, 0, none⟩)] (fun i => ⟨endE es i, arcsS (tgtT T i cls)⟩) w1 hTn _ _ _ rfl
    (fun i _ W hW => backst_any B0 (B0 + 1) (B0 + 1 + 1) i cls _ _ T es W hT hc (hU.below hW) (hx2.below hW) (hx3.below hW) ((h4.below hb1).below hW) ((h5.below hb1).below hW)))
  have c2 := hx2.cell
  have HB1 := Lib.hid hb1
  have hs1 := hb1.size
  have HS1 := Lib.hid hs1
  rw [show ((List.range T.length).map fun i => (⟨endE es i, arcsS (tgtT T i cls)⟩ : Sta)) = backS T cls es from rfl] at HLM
  obtain ⟨M, hM⟩ : ∃ M, backS T cls es = M := ⟨_, rfl⟩
  rw [hM] at HLM ⊢
  rw [hI0]
  clear hM hI0 h4 h5 hT hTn hc hU hx2 hx3 hb1 hs1
  rw [hB] at HB1 HS1 ⊢
  go_enter Try.func16, Try.ntmps16
  go_wp2_with (go_at_call 33; (with_reducible refine HLM.out.mono ?_); rintro e w5 ⟨v, vs, rfl, hr, hb5⟩)
  exact bodyPost_ret (v := v) (by simp [results, Try.results16, go_sem, *]) rfl ⟨v, vs, rfl, Lib.hid ⟨hr.out.len, own_weak hr.out.own HS1.out, hr.out.acc, fun i h1 h2 => own_weak (hr.out.row i h1 h2) HS1.out⟩, Lib.hid (HB1.out.trans (hb5.out.mono HS1.out))⟩
end Go.Proofs.Ytiikmpgadmmjeaa
