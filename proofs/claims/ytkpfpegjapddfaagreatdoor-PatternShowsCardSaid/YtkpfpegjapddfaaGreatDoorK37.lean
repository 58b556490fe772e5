/- Texts that a proof rests on: An append of one node to a row of kids: with no room behind it, or a row of one's own. -/
import Derived.Test.YtkpfpegjapddfaaGreatDoorK35
import Derived.Deep.RegionLaw
import Derived.Deep.AppendLies
import Derived.ArgAppend
set_option maxRecDepth 20000
namespace Go.Proofs.YtkpfpegjapddfaaGreatDoor
open Go.RowKit

/-- A row of kids, as the values that lie there. -/
theorem row_rows {w : World} : ∀ {l : List Pat} {b o : Nat}, RowAt w l b o → ∃ L : List (Pat × Value), L.map Prod.fst = l ∧ (∀ x ∈ L, Kids w x.1.kids x.2) ∧ ∀ j u, (flatN L)[j]? = some u → w.cell? ⟨b, o + j, none⟩ = some u
  | [], b, o, _ => ⟨[], rfl, by simp, by simp [flatN]⟩
  | p :: ps, b, o, h => by
    unfold RowAt at h
    obtain ⟨L, h1, h2, h3⟩ := row_rows h.2
    obtain ⟨ks, hk, c0, c1, c2, c3, c4, c5, c6, c7⟩ := h.1.cells
    refine ⟨(p, ks) :: L, by simp [h1], fun x hx => ?_, fun j u hu => ?_⟩
    · rcases List.mem_cons.1 hx with rfl | hx
      · exact hk
      · exact h2 x hx
    · have e : flatN ((p, ks) :: L) = [.int .i64 p.op, .int .u64 (wd p.set 0), .int .u64 (wd p.set 1), .int .u64 (wd p.set 2), .int .u64 (wd p.set 3), .int .i64 p.lo, .int .i64 p.hi, ks] ++ flatN L := rfl
      rw [e] at hu
      by_cases hj : j < 8
      · rw [List.getElem?_append_left (by simp; omega)] at hu
        rcases j with _ | _ | _ | _ | _ | _ | _ | _ | j
        all_goals first
          | (simp only [List.getElem?_cons_zero, List.getElem?_cons_succ, Option.some.injEq] at hu; subst hu; assumption)
          | omega
      · rw [List.getElem?_append_right (by simp; omega)] at hu
        have := h3 (j - 8) u (by simpa using hu)
        rw [show o + 8 + (j - 8) = o + j from by omega] at this
        exact this
theorem kids_rows {w : World} {l : List Pat} {a : Option Addr} {c : Nat} (h : Kids w l (.slice a l.length c)) : ∃ L : List (Pat × Value), L.map Prod.fst = l ∧ (∀ x ∈ L, Kids w x.1.kids x.2) ∧ (a = none → l.length = 0) ∧ ∀ b, a = some b → ∀ j u, (flatN L)[j]? = some u → w.cell? (b.add j) = some u := by
  by_cases hl : l.length = 0
  · obtain rfl : l = [] := List.eq_nil_of_length_eq_zero hl
    exact ⟨[], rfl, by simp, fun _ => rfl, by simp [flatN]⟩
  · obtain ⟨b, o, cap, e, hr⟩ := h.row (by omega)
    cases e
    obtain ⟨L, h1, h2, h3⟩ := row_rows hr
    refine ⟨L, h1, h2, (fun e => by cases e), fun b' e j u hu => ?_⟩
    cases e
    rw [Addr.add_lit]; exact h3 j u hu
theorem own_kids {w : World} {base : Nat} {v : Value} {L : List (Pat × Value)} (ho : w.ownsRow base 28 8 v L.length (flatN L)) (hk : ∀ x ∈ L, Kids w x.1.kids x.2) : Kids w (L.map Prod.fst) v := by
  rcases ho.2 with ⟨rfl, h0⟩ | ⟨g, cap, cur, rfl, hrest⟩
  · have : L = [] := List.length_eq_zero_iff.1 h0
    subst this
    exact .inl ⟨rfl, _, _, rfl⟩
  · refine .inr ⟨g, 0, cap, by simp, RowAt.of fun i hi => ?_⟩
    have hi' : i < L.length := by simpa using hi
    have e : (L.map Prod.fst)[i] = L[i].1 := by simp
    rw [e, Nat.zero_add]
    exact NodeAt.of (hk _ (List.getElem_mem hi')) fun j hj => (ho.cellAt (i * 8 + j) (by omega)).trans (flatN_at L i hi' j hj)
/-- Kids that lie in old blocks, in a world that holds these blocks. -/
theorem kids_far {w w' : World} {lo : Nat} {x : Option Nat} {l : List Pat} {ks : Value} (h : Kids (mask w lo x) l ks) (hk : ∀ c, lo ≤ c → some c ≠ x → c < w.heap.size → w'.heap[c]? = w.heap[c]?) : Kids w' l ks :=
  (Kids.keep (lo' := 0) (x' := none) h fun c h1 h2 h3 => ⟨hk c h1 h2 h3, Nat.zero_le _, by simp⟩).unmask
theorem kids_mask0 {w : World} {l : List Pat} {ks : Value} (h : Kids w l ks) : Kids (mask w 0 none) l ks := h.mono fun y u hu => (mask_cell w 0 none y u).2 ⟨⟨Nat.zero_le _, by simp⟩, hu⟩
/-- An append to a row with no room behind it makes a new row. -/
theorem run_push_tight (w2 W : World) (a : Option Addr) (l : List Pat) (q : Pat) (ks : Value) (ty : TypeId) (hk : Kids w2 l (.slice a l.length l.length)) (hbW : Below w2.heap.size w2 W) (hN : w2.heap.size < W.heap.size) (hq : q.kids = []) (hq1 : ∃ a c, ks = .slice a 0 c) (hlen : l.length < 100000) :
    ∃ v' w', (Builtin.append_ #[26, 26] ty #[.slice a l.length l.length, .slice (some ⟨W.heap.size, 0, none⟩) 1 1]).run Tryz.prog (W.alloc (.cells #[.int .i64 q.op, .int .u64 (wd q.set 0), .int .u64 (wd q.set 1), .int .u64 (wd q.set 2), .int .u64 (wd q.set 3), .int .i64 q.lo, .int .i64 q.hi, ks] 28)) = .ok v' w' ∧ (∀ w6 : World, (∀ c, c ≠ w2.heap.size → w6.heap[c]? = w'.heap[c]?) → Kids w6 (l ++ [q]) v') ∧ (W.alloc (.cells #[.int .i64 q.op, .int .u64 (wd q.set 0), .int .u64 (wd q.set 1), .int .u64 (wd q.set 2), .int .u64 (wd q.set 3), .int .i64 q.lo, .int .i64 q.hi, ks] 28)).grownBy w' none := by
  obtain ⟨i0, hi, hy0, hy1, hy2⟩ := info_parts infoNode
  obtain ⟨L, h1, h2, h3, h4⟩ := kids_rows hk
  have hll : L.length = l.length := by rw [← h1, List.length_map]
  have hal := below_step hbW (below_1 W (.cells #[.int .i64 q.op, .int .u64 (wd q.set 0), .int .u64 (wd q.set 1), .int .u64 (wd q.set 2), .int .u64 (wd q.set 3), .int .i64 q.lo, .int .i64 q.hi, ks] 28))
  have hflat : (flatN L).length = l.length * 8 := by rw [flatN_length, hll]
  have h1c : ks.oneCell' = true := by
    obtain ⟨qa, qc, rfl⟩ := hq1
    rfl
  have fin : ∀ v' w', w'.ownsRow (W.alloc (.cells #[.int .i64 q.op, .int .u64 (wd q.set 0), .int .u64 (wd q.set 1), .int .u64 (wd q.set 2), .int .u64 (wd q.set 3), .int .i64 q.lo, .int .i64 q.hi, ks] 28)).heap.size 28 8 v' (l.length + 1) (flatN L ++ [.int .i64 q.op, .int .u64 (wd q.set 0), .int .u64 (wd q.set 1), .int .u64 (wd q.set 2), .int .u64 (wd q.set 3), .int .i64 q.lo, .int .i64 q.hi, ks]) → (W.alloc (.cells #[.int .i64 q.op, .int .u64 (wd q.set 0), .int .u64 (wd q.set 1), .int .u64 (wd q.set 2), .int .u64 (wd q.set 3), .int .i64 q.lo, .int .i64 q.hi, ks] 28)).grownBy w' none → ∀ w6 : World, (∀ c, c ≠ w2.heap.size → w6.heap[c]? = w'.heap[c]?) → Kids w6 (l ++ [q]) v' := by
    intro v' w' ho hg w6 h6
    have hold : ∀ c, c < w2.heap.size → w6.heap[c]? = w2.heap[c]? := fun c hc =>
      ((h6 c (by omega)).trans (hg.block c (by rw [World.size_alloc]; omega) (by simp))).trans (hal.block c hc)
    have hrow : w6.ownsRow 0 28 8 v' (L ++ [(q, ks)]).length (flatN (L ++ [(q, ks)])) := by
      refine ⟨by rw [flatN_length], ?_⟩
      rcases ho.2 with ⟨_, h0⟩ | ⟨g, cap, cur, e, hge, hc, h5, h66, h7, h8⟩
      · omega
      · rw [World.size_alloc] at hge
        refine .inr ⟨g, cap, cur, by rw [e]; simp [hll], Nat.zero_le _, (h6 g (by omega)).trans hc, by simp [hll]; omega, h66, h7, ?_⟩
        rw [flatN_snoc]
        rw [← h8]
        simp [hll]
    have := own_kids hrow fun x hx => by
      rcases List.mem_append.1 hx with hm | hm
      · exact kids_far (kids_mask0 (h2 x hm)) fun c _ _ hc => hold c hc
      · simp at hm
        subst hm
        obtain ⟨qa, qc, rfl⟩ := hq1
        show Kids w6 q.kids _
        rw [hq]
        exact Kids.nil _ _ _
    rw [List.map_append, h1] at this
    exact this
  cases a with
  | some b =>
    obtain ⟨v', w', hr, ho, hg⟩ := run_append_arg_grows (P := Tryz.prog) (W.alloc (.cells #[.int .i64 q.op, .int .u64 (wd q.set 0), .int .u64 (wd q.set 1), .int .u64 (wd q.set 2), .int .u64 (wd q.set 3), .int .i64 q.lo, .int .i64 q.hi, ks] 28)) 26 ty 28 i0 (.agg #[.int .i64 0, .int .u64 0, .int .u64 0, .int .u64 0, .int .u64 0, .int .i64 0, .int .i64 0, .slice none 0 0]) 8 80 Tryz.underlying26 hi hy0 hy1 hy2 rfl (by decide) b l.length l.length (flatN L) hflat (fun j u hu => cell_below hal (h4 b rfl j u hu)) ⟨W.heap.size, 0, none⟩ 1 1 [.int .i64 q.op, .int .u64 (wd q.set 0), .int .u64 (wd q.set 1), .int .u64 (wd q.set 2), .int .u64 (wd q.set 3), .int .i64 q.lo, .int .i64 q.hi, ks] rfl (cell_eight_new W q ks 28) (by omega) (by unfold maxLen; omega) (by omega)
    exact ⟨v', w', hr, fin v' w' ho hg, hg⟩
  | none =>
    have h0 := h3 rfl
    have hL0 : L = [] := List.eq_nil_of_length_eq_zero (by omega)
    obtain ⟨v', w', hr, ho, hg, _⟩ := run_append_own (P := Tryz.prog) (W.alloc (.cells #[.int .i64 q.op, .int .u64 (wd q.set 0), .int .u64 (wd q.set 1), .int .u64 (wd q.set 2), .int .u64 (wd q.set 3), .int .i64 q.lo, .int .i64 q.hi, ks] 28)) (W.alloc (.cells #[.int .i64 q.op, .int .u64 (wd q.set 0), .int .u64 (wd q.set 1), .int .u64 (wd q.set 2), .int .u64 (wd q.set 3), .int .i64 q.lo, .int .i64 q.hi, ks] 28)).heap.size 26 ty 28 i0 (.agg #[.int .i64 0, .int .u64 0, .int .u64 0, .int .u64 0, .int .u64 0, .int .i64 0, .int .i64 0, .slice none 0 0]) 8 80 Tryz.underlying26 hi hy0 hy1 hy2 rfl (by decide) (.slice none 0 0) 0 [] (World.ownsRow_nil _ _ 28 8) ⟨W.heap.size, 0, none⟩ 1 1 [.int .i64 q.op, .int .u64 (wd q.set 0), .int .u64 (wd q.set 1), .int .u64 (wd q.set 2), .int .u64 (wd q.set 3), .int .i64 q.lo, .int .i64 q.hi, ks] rfl (cell_eight_new W q ks 28) (by intro u hu; simp only [List.mem_cons, List.not_mem_nil, or_false] at hu; rcases hu with rfl | rfl | rfl | rfl | rfl | rfl | rfl | rfl <;> first | exact h1c | rfl) (by unfold maxLen; omega) (by omega) (Nat.le_refl _)
    refine ⟨v', w', by rw [h0]; exact hr, fin v' w' ?_ hg, hg⟩
    rw [h0, hL0]
    exact ho
end Go.Proofs.YtkpfpegjapddfaaGreatDoor
