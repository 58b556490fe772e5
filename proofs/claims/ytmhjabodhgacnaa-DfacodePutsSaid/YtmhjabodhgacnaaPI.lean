/- Contract: list of states. -/
import Derived.Test.YtmhjabodhgacnaaPH
set_option maxRecDepth 100000
namespace Go.Proofs.Ytmhjabodhgacnaa
open Go.RowKit

theorem infoSta : (Try.prog.info? 54).map (fun i => (i.zero, i.size, i.bytes)) = some (some (.agg #[.int .u64 0, .slice none 0 0]), 2, 32) := by kernel_rfl
theorem RowsM.gb {w w' : World} {N R : Nat} {v : Value} {vs : List (Nat × Value)} {M : List Sta} (h : RowsM w N v vs M) (hg : w.grownBy w' (some R)) (hR : R < N) : RowsM w' N v vs M :=
  ⟨h.len, own_gb h.own hg hR, h.acc, fun i h1 h2 => own_gb (h.row i h1 h2) hg hR⟩
set_option maxHeartbeats 4000000 in
theorem list_state (R : Nat) (s : RS) (w : World) (h : RB w R s) (hs : ROk s) :
    Calls Try.prog 29 #[.pointer (some ⟨R, 0, none⟩), .int .i64 4096, .func (.func 30) #[.pointer (some ⟨R, 0, none⟩)] #[]] w fun e w' => ∃ v vs, e = .returned v ∧ Hid (RowsM w' w.heap.size v vs (rdMach s).1) ∧ Hid (RB w' R (rdMach s).2) ∧ Hid (w.grownBy w' (some R)) := by
  obtain ⟨i0, hi0, hz0, hz1, hz2⟩ := info_parts infoSta
  have HI := Lib.hid (And.intro hi0 (And.intro hz0 (And.intro hz1 hz2)))
  clear hi0 hz0 hz1 hz2
  have hRl := h.lt
  obtain ⟨N, hN⟩ : ∃ N, w.heap.size = N := ⟨_, rfl⟩
  have HN := Lib.hid hN
  have HU : Hid (Calls Try.prog 33 #[.pointer (some ⟨R, 0, none⟩), .int .i64 4096] w fun e w' => e = .returned (.int .i64 ((rdUp 4096 s).1 : Nat)) ∧ Hid (RB w' R (rdUp 4096 s).2) ∧ Hid (w.grownBy w' (some R))) := Lib.hid (upto_any 4096 R s w h hs (by omega))
  have hc := rdUp_le 4096 s
  have HK := Lib.hid (rdUp_ok 4096 s hs)
  have HE := Lib.hid (show rdMach s = rdRep rdSt (rdUp 4096 s).1 (rdUp 4096 s).2 from rfl)
  have hRN : R < N := by omega
  rw [HE.out, hN]
  clear h hs hRl HE hN
  generalize rdUp 4096 s = q at *
  go_enter Try.func29, Try.ntmps29
  go_wp2_with (first
    | (go_at_call 33; (with_reducible refine HU.out.mono ?_); rintro e w2 ⟨rfl, hr2, hg2⟩))
  go_loopw [7] (fun u wr => ∃ (k : Nat) (vs : List (Nat × Value)) (xs : List Sta) (sk : RS), Hid (Reads rdSt q.1 q.2 k xs sk) ∧ k ≤ q.1 ∧ Hid (ROk sk) ∧ Hid (RowsM wr N u vs xs) ∧ Hid (RB wr R sk) ∧ Hid (w.grownBy wr (some R))) (fun u _ => q.1 - (match u with | .slice _ n _ => n | _ => 0))
  case atStart => exact ⟨0, [], [], q.2, Lib.hid (Reads.start _ _ _), Nat.zero_le _, HK, Lib.hid (RowsM.nil _ _), hr2, hg2⟩
  case round =>
    clear hr2 hg2
    obtain ⟨k, vs, xs, sk, HRD, hk, HOK, HOW, HRB, HG⟩ := hrel
    have HKX := Lib.hid HRD.out.1
    have HO0 : Hid (wr.ownsRow N 54 2 u7 k (flatM vs)) := Lib.hid (by have := HOW.out.own; rwa [HKX.out] at this)
    obtain ⟨a3, cp3, rfl⟩ := row_form HO0.out
    by_cases hlt : k < q.1
    · have hd : decide ((k : Int) < q.1) = true := decide_eq_true (by omega)
      obtain ⟨lv, hb, _⟩ := HRB.out
      have c1 : wr.cell? ⟨R, 1, none⟩ = some (.int .i64 (errN sk.2)) := (cell_of_row wr R 1 _ _ _ hb).trans rfl
      clear hb
      by_cases he : sk.2 = true
      · rw [he, errN_yes] at c1
        have HST := Lib.hid (HRD.out.stop (.inr he))
        clear he
        go_wp2_with fail
        go_ret
        exact ⟨_, vs, rfl, by rw [HST.out]; exact HOW, by rw [HST.out]; exact HRB, HG⟩
      · have he2 : sk.2 = false := by simpa using he
        rw [he2, errN_no] at c1
        have HNX := Lib.hid (HRD.out.next hlt he2)
        have HAR := Lib.hid (state_any R sk wr HRB.out HOK.out)
        have HOK2 := Lib.hid (rdSt_ok sk HOK.out)
        have hz : N ≤ wr.heap.size := by rw [← HN.out]; exact HG.out.size
        have HZ := Lib.hid hz
        clear he he2 HRD HOK
        generalize rdSt sk = y at *
        go_wp2_with (first
          | (go_at_call 30; (with_reducible refine HAR.out.mono ?_); rintro e w5 ⟨v5, rfl, ho5, hr5, hg5⟩; obtain ⟨a5, c5, rfl⟩ := row_form ho5.out; have HOW5 := Lib.hid (HOW.out.gb hg5.out hRN); have HA5 := Lib.hid (own_weak ho5.out HZ.out); have HO5 := Lib.hid (own_gb HO0.out hg5.out hRN); have HRA := Lib.hid (HO5.out.alloc (.cells #[.int .u64 y.1.acc, .slice a5 y.1.arcs.length c5] 54)); have hz5 : N ≤ w5.heap.size := Nat.le_trans hz hg5.out.size)
          | (at_builtin; refine wpList_append_lies _ rfl _ _ 22 rfl N 54 i0 (.agg #[.int .u64 0, .slice none 0 0]) 2 32 Try.underlying22 HI.out.1 HI.out.2.1 HI.out.2.2.1 HI.out.2.2.2 rfl (by decide) (.slice a3 k cp3) k (flatM vs) rfl HRA.out ⟨w5.heap.size, 0, none⟩ 1 1 [.int .u64 y.1.acc, .slice a5 y.1.arcs.length c5] rfl rfl (news_in (cs := #[.int .u64 y.1.acc, .slice a5 y.1.arcs.length c5]) (heap_alloc_new w5 _)) (by simp [Value.oneCell']) (by omega) (by unfold maxLen; omega) (by omega) (by simp; omega) (w5.heap.size + 1) (by simp) ?_; intro g2 cap2 w8 h2 h3 h4 h5; have HRB8 := Lib.hid (rb_push (rb_alloc hr5.out _) HRA.out hRN h3); have HG8 := Lib.hid (gb_push (gb_trans HG.out (gb_trans hg5.out (gb_below (new_one w5 _)))) HRA.out (Nat.le_of_eq HN.out) h3); have HP : Hid (RowsM w8 N (.slice (some ⟨g2, 0, none⟩) (k + 1) cap2) (vs ++ [(y.1.acc, .slice a5 y.1.arcs.length c5)]) (xs ++ [y.1])) := Lib.hid (HOW5.out.push HA5.out (new_one w5 _) h3 (by rw [HKX.out]; exact h2)); clear h2 h3 h4 h5))
        exact ⟨⟨k + 1, _, xs ++ [y.1], y.2, HNX, hlt, HOK2, HP, HRB8, HG8⟩, by simp only []; omega⟩
    · have hkc : k = q.1 := by omega
      have hd : decide ((k : Int) < q.1) = false := decide_eq_false (by omega)
      have hdn : decide (k < q.1) = false := decide_eq_false hlt
      have HST := Lib.hid (HRD.out.stop (.inl hkc))
      clear hkc hlt
      go_wp2_with fail
      go_ret
      exact ⟨_, vs, rfl, by rw [HST.out]; exact HOW, by rw [HST.out]; exact HRB, HG⟩
end Go.Proofs.Ytmhjabodhgacnaa
