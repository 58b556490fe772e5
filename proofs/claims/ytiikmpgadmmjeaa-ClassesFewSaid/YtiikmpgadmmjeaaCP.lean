/- The contract of the law's ends. -/
import Derived.Test.YtiikmpgadmmjeaaCK
set_option maxRecDepth 100000
namespace Go.Proofs.Ytiikmpgadmmjeaa
open Go.RowKit

/-- What the states end. -/
def accs (m : List Sta) : List Nat := m.map Sta.acc
def wordV (l : List Nat) : List Value := l.map fun x : Nat => Value.int .u64 (x : Int)
theorem infoW : (Try.prog.info? 34).map (fun i => (i.zero, i.size, i.bytes)) = some (some (.int .u64 0), 1, 8) := by kernel_rfl
theorem ends_row {w : World} {B : Nat} {v : Value} {l : List Nat} (h : w.ownsRow B 34 1 v l.length (wordV l)) : EndsAt w v l := by
  rcases h.2 with ⟨rfl, h1⟩ | ⟨g, cap, cur, rfl, _⟩
  · have : l = [] := List.eq_nil_of_length_eq_zero h1
    subst this; exact ⟨none, 0, rfl, fun i hi => by simp at hi⟩
  · exact ⟨_, cap, rfl, fun i hi => ⟨g, 0, rfl, by rw [Nat.zero_add, h.cellAt i (by omega)]; simp [wordV, hi]⟩⟩
theorem accs_snoc {m : List Sta} {k : Nat} (hk : k < m.length) : (accs m).take (k + 1) = (accs m).take k ++ [m[k].acc] := by
  have h : k < (accs m).length := by simp [accs, hk]
  rw [List.take_succ_eq_append_getElem h]
  simp [accs]
set_option maxHeartbeats 4000000 in
theorem ends_any (v : Value) (m : List Sta) (w : World) (hv : MachAt w v m) (hml : m.length < 1000000) :
    Calls Try.prog 21 #[v] w fun e w' => ∃ u, e = .returned u ∧ Hid (EndsAt w' u (accs m)) ∧ Hid (Below w.heap.size w w') := by
  obtain ⟨i0, hi, hz0, hz1, hz2⟩ := info_parts infoW
  have HI := Lib.hid (⟨hi, hz0, hz1, hz2⟩ : Try.prog.info? 34 = some i0 ∧ i0.zero = some (.int .u64 0) ∧ i0.size = 1 ∧ i0.bytes = 8)
  clear hi hz0 hz1 hz2
  obtain ⟨N, hN⟩ : ∃ N, w.heap.size = N := ⟨_, rfl⟩
  have HV := Lib.hid (fun W (hW : Below N w W) => hv.below (by rw [hN]; exact hW))
  obtain ⟨av, cv, rfl⟩ := hv.len
  have HSN := Lib.hid (fun k (hk : k < m.length) => accs_snoc hk)
  have HAC := Lib.hid (show (accs m).take m.length = accs m from List.take_of_length_le (by simp [accs]))
  have HAL := Lib.hid (show (accs m).length = m.length from by simp [accs])
  clear hv
  have hNw : N ≤ w.heap.size := by omega
  rw [hN]
  clear hN
  go_enter Try.func21, Try.ntmps21
  go_wp2
  go_loopw [3, 4] (fun u z wr => ∃ k : Nat, z = .int .i64 k ∧ k ≤ m.length ∧ N ≤ wr.heap.size ∧ Hid (wr.ownsRow N 34 1 u k (wordV ((accs m).take k))) ∧ Hid (Below N w wr)) (fun _ z _ => m.length - (intOf z).toNat)
  case atStart => exact ⟨0, rfl, Nat.zero_le _, hNw, Lib.hid (World.ownsRow_nil _ _ _ _), Lib.hid (Below.refl _ _)⟩
  case round =>
    clear hNw
    obtain ⟨k, rfl, hk, hNr, HR, HB⟩ := hrel
    by_cases hlt : k < m.length
    · have hd : decide ((k : Int) < m.length) = true := decide_eq_true (by omega)
      have hki : (k : Int) < m.length := by omega
      obtain ⟨b, o, va, rfl, e0, _, _⟩ := (HV.out wr HB.out).at rfl hlt
      have HS1 := Lib.hid (HSN.out k hlt)
      generalize m[k].acc = x at *
      obtain ⟨a3, cp3, rfl⟩ := row_form HR.out
      have HRA := Lib.hid (HR.out.alloc (.cells #[.int .u64 (x : Nat)] 34))
      obtain ⟨xs, hxs⟩ : ∃ xs, (accs m).take k = xs := ⟨_, rfl⟩
      rw [hxs] at HR HS1 HRA
      clear hxs
      go_wp2_with (at_builtin; refine wpList_append_lies _ rfl _ _ 35 rfl N 34 i0 (.int .u64 0) 1 8 Try.underlying35 HI.out.1 HI.out.2.1 HI.out.2.2.1 HI.out.2.2.2 rfl (by decide) (.slice a3 k cp3) k (wordV xs) rfl HRA.out ⟨wr.heap.size, 0, none⟩ 1 1 [.int .u64 (x : Nat)] rfl rfl (news_in (cs := #[.int .u64 (x : Nat)]) (heap_alloc_new wr _)) (by simp [Value.oneCell']) (by omega) (by unfold maxLen; omega) (by omega) (by simp; omega) (wr.heap.size + 1) (by simp) ?_; intro g2 cap2 w8 h2 h3 h4 h5; have HP1 := Lib.hid (push3 HB.out HR.out (Nat.le_refl N) hNr ((Below.refl _ _).alloc (Nat.le_refl _) _) h3); have hsz8 := h3.size; have HP3 := Lib.hid h2; clear h2 h3 h4 h5)
      exact ⟨⟨k + 1, rfl, hlt, by simp at hsz8; omega, Lib.hid (by rw [HS1.out]; unfold wordV at *; rw [List.map_append]; exact HP3.out), HP1⟩, by simp only [intOf]; omega⟩
    · obtain rfl : k = m.length := by omega
      have hd : decide ((m.length : Int) < m.length) = false := by simp
      rw [HAC.out] at HR
      go_wp2
      exact bodyPost_ret (v := u3) (by simp [results, Try.results21, go_sem, *]) rfl ⟨u3, rfl, Lib.hid (ends_row (by rw [HAL.out]; exact HR.out)), HB⟩
end Go.Proofs.Ytiikmpgadmmjeaa
