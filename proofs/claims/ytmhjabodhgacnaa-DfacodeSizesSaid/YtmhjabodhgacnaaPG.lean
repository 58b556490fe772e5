/- Contract: list of arcs. -/
import Derived.Test.YtmhjabodhgacnaaPF
set_option maxRecDepth 100000
namespace Go.Proofs.Ytmhjabodhgacnaa
open Go.RowKit

theorem own_gb {w w' : World} {B n sz R : Nat} {e : TypeId} {v : Value} {l : List Value} (h : w.ownsRow B e sz v n l) (hg : w.grownBy w' (some R)) (hR : R < B) : w'.ownsRow B e sz v n l :=
  h.kept hg (.inr fun e => by have := (h.lt R e).1; omega)
theorem rb_push {w w' : World} {R B n sz : Nat} {e : TypeId} {v : Value} {l : List Value} {s : RS} (h : RB w R s) (ho : w.ownsRow B e sz v n l) (hR : R < B) (hg : w.grownBy w' v.ownBlock) : RB w' R s :=
  rb_low h fun k hk => hg.block k (by have := h.lt; omega) (fun e => by have := (ho.lt k e.symm).1; omega)
theorem gb_push {w wr w' : World} {R B n sz : Nat} {e : TypeId} {v : Value} {l : List Value} (h : w.grownBy wr (some R)) (ho : wr.ownsRow B e sz v n l) (hB : w.heap.size ≤ B) (hg : wr.grownBy w' v.ownBlock) : w.grownBy w' (some R) :=
  ⟨hg.os.trans h.os, hg.tape.trans h.tape, hg.output.trans h.output, Nat.le_trans h.size hg.size, fun i hi hne => (hg.block i (Nat.lt_of_lt_of_le hi h.size) (fun e => by have := (ho.lt i e.symm).1; omega)).trans (h.block i hi hne)⟩
/-- How a list is read on. -/
def Reads {α : Type} (f : RS → α × RS) (c : Nat) (s1 : RS) (k : Nat) (xs : List α) (s : RS) : Prop := xs.length = k ∧ k ≤ c ∧ rdRep f c s1 = (xs ++ (rdRep f (c - k) s).1, (rdRep f (c - k) s).2)
theorem Reads.start {α : Type} (f : RS → α × RS) (c : Nat) (s : RS) : Reads f c s 0 [] s := ⟨rfl, Nat.zero_le _, rfl⟩
theorem Reads.next {α : Type} {f : RS → α × RS} {c k : Nat} {s1 s : RS} {xs : List α} (h : Reads f c s1 k xs s) (hk : k < c) (he : s.2 = false) : Reads f c s1 (k + 1) (xs ++ [(f s).1]) (f s).2 := by
  obtain ⟨h1, h2, h3⟩ := h
  refine ⟨by rw [List.length_append, h1]; rfl, hk, ?_⟩
  rw [h3, show c - k = (c - (k + 1)) + 1 from by omega, rdRep, if_neg (by rw [he]; simp), List.append_assoc]
  rfl
theorem Reads.stop {α : Type} {f : RS → α × RS} {c k : Nat} {s1 s : RS} {xs : List α} (h : Reads f c s1 k xs s) (he : k = c ∨ s.2 = true) : rdRep f c s1 = (xs, s) := by
  obtain ⟨h1, h2, h3⟩ := h
  rw [h3]
  rcases he with rfl | he
  · rw [Nat.sub_self, rdRep, List.append_nil]
  · have : rdRep f (c - k) s = ([], s) := by
      cases c - k with
      | zero => rfl
      | succ n => rw [rdRep, if_pos he]
    rw [this, List.append_nil]
set_option maxHeartbeats 4000000 in
theorem list_arc (R : Nat) (s : RS) (w : World) (h : RB w R s) (hs : ROk s) :
    Calls Try.prog 35 #[.pointer (some ⟨R, 0, none⟩), .int .i64 256, .func (.func 36) #[.pointer (some ⟨R, 0, none⟩)] #[]] w fun e w' => ∃ v, e = .returned v ∧ Hid (w'.ownsRow w.heap.size 69 3 v (rdList rdArc 256 s).1.length (flatA (rdList rdArc 256 s).1)) ∧ Hid (RB w' R (rdList rdArc 256 s).2) ∧ Hid (w.grownBy w' (some R)) := by
  obtain ⟨i0, hi0, hz0, hz1, hz2⟩ := info_parts infoArc
  have HI := Lib.hid (And.intro hi0 (And.intro hz0 (And.intro hz1 hz2)))
  clear hi0 hz0 hz1 hz2
  have hRl := h.lt
  obtain ⟨N, hN⟩ : ∃ N, w.heap.size = N := ⟨_, rfl⟩
  have HN := Lib.hid hN
  have HU : Hid (Calls Try.prog 33 #[.pointer (some ⟨R, 0, none⟩), .int .i64 256] w fun e w' => e = .returned (.int .i64 ((rdUp 256 s).1 : Nat)) ∧ Hid (RB w' R (rdUp 256 s).2) ∧ Hid (w.grownBy w' (some R))) := Lib.hid (upto_any 256 R s w h hs (by omega))
  have hc := rdUp_le 256 s
  have HK := Lib.hid (rdUp_ok 256 s hs)
  have HE := Lib.hid (show rdList rdArc 256 s = rdRep rdArc (rdUp 256 s).1 (rdUp 256 s).2 from rfl)
  have hRN : R < N := by omega
  rw [HE.out, hN]
  clear h hs hRl HE hN
  generalize rdUp 256 s = q at *
  go_enter Try.func35, Try.ntmps35
  go_wp2_with (first
    | (go_at_call 33; (with_reducible refine HU.out.mono ?_); rintro e w2 ⟨rfl, hr2, hg2⟩))
  go_loopw [7] (fun u wr => ∃ (k : Nat) (xs : List Arc3) (sk : RS), Hid (Reads rdArc q.1 q.2 k xs sk) ∧ k ≤ q.1 ∧ Hid (ROk sk) ∧ Hid (wr.ownsRow N 69 3 u k (flatA xs)) ∧ Hid (RB wr R sk) ∧ Hid (w.grownBy wr (some R))) (fun u _ => q.1 - (match u with | .slice _ n _ => n | _ => 0))
  case atStart => exact ⟨0, [], q.2, Lib.hid (Reads.start _ _ _), Nat.zero_le _, HK, Lib.hid (World.ownsRow_nil _ _ _ _), hr2, hg2⟩
  case round =>
    clear hr2 hg2
    obtain ⟨k, xs, sk, HRD, hk, HOK, HOW, HRB, HG⟩ := hrel
    obtain ⟨a3, cp3, rfl⟩ := row_form HOW.out
    by_cases hlt : k < q.1
    · have hd : decide ((k : Int) < q.1) = true := decide_eq_true (by omega)
      obtain ⟨lv, hb, _⟩ := HRB.out
      have c1 : wr.cell? ⟨R, 1, none⟩ = some (.int .i64 (errN sk.2)) := (cell_of_row wr R 1 _ _ _ hb).trans rfl
      clear hb
      by_cases he : sk.2 = true
      · rw [he, errN_yes] at c1
        have HST := Lib.hid (HRD.out.stop (.inr he))
        have HLN := Lib.hid HRD.out.1
        clear he
        go_wp2_with fail
        go_ret
        exact ⟨_, rfl, by rw [HST.out, HLN.out]; exact HOW, by rw [HST.out]; exact HRB, HG⟩
      · have he2 : sk.2 = false := by simpa using he
        rw [he2, errN_no] at c1
        have HNX := Lib.hid (HRD.out.next hlt he2)
        have HAR := Lib.hid (arc_any R sk wr HRB.out HOK.out)
        have HOK2 := Lib.hid (rdArc_ok sk HOK.out)
        have hz : N ≤ wr.heap.size := by rw [← HN.out]; exact HG.out.size
        have HFL := Lib.hid (flatA_snoc xs (rdArc sk).1)
        clear he he2 HRD HOK
        generalize rdArc sk = y at *
        go_wp2_with (first
          | (go_at_call 36; (with_reducible refine HAR.out.mono ?_); rintro e w5 ⟨rfl, hr5, hg5⟩; have HO5 := Lib.hid (own_gb HOW.out hg5.out hRN); have HRA := Lib.hid (HO5.out.alloc (.cells #[.int .u8 y.1.lo, .int .u8 y.1.hi, .int .i64 y.1.dest] 69)); have hz5 : N ≤ w5.heap.size := Nat.le_trans hz hg5.out.size)
          | (at_builtin; refine wpList_append_lies _ rfl _ _ 52 rfl N 69 i0 (.agg #[.int .u8 0, .int .u8 0, .int .i64 0]) 3 16 Try.underlying52 HI.out.1 HI.out.2.1 HI.out.2.2.1 HI.out.2.2.2 rfl (by decide) (.slice a3 k cp3) k (flatA xs) rfl HRA.out ⟨w5.heap.size, 0, none⟩ 1 1 [.int .u8 y.1.lo, .int .u8 y.1.hi, .int .i64 y.1.dest] rfl rfl (news_in (cs := #[.int .u8 y.1.lo, .int .u8 y.1.hi, .int .i64 y.1.dest]) (heap_alloc_new w5 _)) (by simp [Value.oneCell']) (by omega) (by unfold maxLen; omega) (by omega) (by simp; omega) (w5.heap.size + 1) (by simp) ?_; intro g2 cap2 w8 h2 h3 h4 h5; have HRB8 := Lib.hid (rb_push (rb_alloc hr5.out _) HRA.out hRN h3); have HG8 := Lib.hid (gb_push (gb_trans HG.out (gb_trans hg5.out (gb_below (new_one w5 _)))) HRA.out (Nat.le_of_eq HN.out) h3); have HP := Lib.hid h2; clear h2 h3 h4 h5))
        exact ⟨⟨k + 1, xs ++ [y.1], y.2, HNX, hlt, HOK2, by rw [HFL.out]; exact HP, HRB8, HG8⟩, by simp only []; omega⟩
    · have hkc : k = q.1 := by omega
      have hd : decide ((k : Int) < q.1) = false := decide_eq_false (by omega)
      have hdn : decide (k < q.1) = false := decide_eq_false hlt
      have HST := Lib.hid (HRD.out.stop (.inl hkc))
      have HLN := Lib.hid HRD.out.1
      clear hkc hlt
      go_wp2_with fail
      go_ret
      exact ⟨_, rfl, by rw [HST.out, HLN.out]; exact HOW, by rw [HST.out]; exact HRB, HG⟩
end Go.Proofs.Ytmhjabodhgacnaa
