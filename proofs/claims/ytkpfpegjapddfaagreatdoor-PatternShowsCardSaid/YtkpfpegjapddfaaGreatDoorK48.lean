/- Texts that a proof rests on: What PatternShows calls. | Two regions of PatternShows. -/
import Derived.Test.YtkpfpegjapddfaaGreatDoorK37
import Derived.Test.YtkpfpegjapddfaaGreatDoorK35
import Derived.Test.YtkpfpegjapddfaaGreatDoorK42
import Derived.Test.YtkpfpegjapddfaaGreatDoorK47
import Derived.Test.YtkpfpegjapddfaaGreatDoorK25
import Derived.Deep.RegionWith
import Derived.Deep.CutRange
set_option maxRecDepth 20000
namespace Go.Proofs.YtkpfpegjapddfaaGreatDoor
open Go.RowKit

/-- An append of one node to a row of one's own, at a step of a region that draws. -/
theorem step_push {ops : Array Oper} {o : Oper} {a : Act} {K : Act → World → Prop} {Q : Exit → Act → World → Prop} {E : Prop} (s x : Operand) (hgd : o.guard = none) (ho : o.op = .call { callee := .builtin .append, args := #[s, x], argTypes := #[26, 26] })
    (W : World) (base : Nat) (v : Value) (L : List (Pat × Value)) (p : Pat) (b : Option Addr) (l c : Nat) (hrow : NRow W base v L) (hp : KidsN W base p.kids (.slice b l c)) (hpx : ∀ B, v.ownBlock = some B → Kids (mask W base (some B)) p.kids (.slice b l c)) (hlen : L.length < 100000) (hbase : base ≤ W.heap.size)
    (hs : a.eval s = v) (hx : a.eval x = .slice (some ⟨W.heap.size, 0, none⟩) 1 1)
    (h : ∀ g cap w', NRow w' base (.slice (some ⟨g, 0, none⟩) (L.length + 1) cap) (L ++ [(p, .slice b l c)]) → (v.ownBlock = some g ∨ g = W.heap.size + 1) → (W.alloc (.cells #[.int .i64 p.op, .int .u64 (wd p.set 0), .int .u64 (wd p.set 1), .int .u64 (wd p.set 2), .int .u64 (wd p.set 3), .int .i64 p.lo, .int .i64 p.hi, .slice b l c] 28)).grownBy w' v.ownBlock → K (a.put o.dst (.slice (some ⟨g, 0, none⟩) (L.length + 1) cap)) w') :
    if Region.wanted o (yielded ops a.tmps) = true then Oper.wp Tryz.prog o a (W.alloc (.cells #[.int .i64 p.op, .int .u64 (wd p.set 0), .int .u64 (wd p.set 1), .int .u64 (wd p.set 2), .int .u64 (wd p.set 3), .int .i64 p.lo, .int .i64 p.hi, .slice b l c] 28)) K Q else E := by
  obtain ⟨i0, hi, hy0, hy1, hy2⟩ := info_parts infoNode
  have hal : Below W.heap.size W (W.alloc (.cells #[.int .i64 p.op, .int .u64 (wd p.set 0), .int .u64 (wd p.set 1), .int .u64 (wd p.set 2), .int .u64 (wd p.set 3), .int .i64 p.lo, .int .i64 p.hi, .slice b l c] 28)) := (Below.refl _ _).alloc (Nat.le_refl _) _
  refine step_append_lies _ hgd s x 26 ho base 28 i0 (.agg #[.int .i64 0, .int .u64 0, .int .u64 0, .int .u64 0, .int .u64 0, .int .i64 0, .int .i64 0, .slice none 0 0]) 8 80 Tryz.underlying26 hi hy0 hy1 hy2 rfl (by decide) v L.length (flatN L) hs (hrow.1.alloc _) ⟨W.heap.size, 0, none⟩ 1 1 [.int .i64 p.op, .int .u64 (wd p.set 0), .int .u64 (wd p.set 1), .int .u64 (wd p.set 2), .int .u64 (wd p.set 3), .int .i64 p.lo, .int .i64 p.hi, .slice b l c] hx rfl (cell_eight_new W p (.slice b l c) 28) (by simp [Value.oneCell']) (by omega) (by unfold maxLen; omega) (by omega) (by rw [World.size_alloc]; omega) (W.heap.size + 1) (World.size_alloc _ _) ?_
  intro g cap w' hown hg hat _
  refine h g cap w' ?_ hat hg
  refine (hrow.below hal).snoc hown hg ?_ ?_
  · rcases hat with h | h
    · exact .inl h.symm
    · exact .inr (by rw [World.size_alloc, ← h]; rfl)
  · cases hv : v.ownBlock with
    | none => exact hp.below hal
    | some B => exact (hpx B hv).masked_below hal
/-- What an append to such kids leaves: all blocks but its own row. -/
def Grew (base N : Nat) (w w' : World) : Prop := ∃ y : Option Nat, (∀ g, y = some g → base ≤ g ∧ g < N) ∧ w.grownBy w' y
theorem step_kids {ops : Array Oper} {o : Oper} {a : Act} {K : Act → World → Prop} {Q : Exit → Act → World → Prop} {E : Prop} (s x : Operand) (hgd : o.guard = none) (ho : o.op = .call { callee := .builtin .append, args := #[s, x], argTypes := #[26, 26] })
    (w2 W : World) (base : Nat) (kids : List Pat) (v : Value) (t : BitVec 256) (hk2 : Kids w2 kids v) (hf : Fit w2 base kids v) (hbW : Below w2.heap.size w2 W) (hN : w2.heap.size < W.heap.size) (hlen : kids.length < 99999) (hbase : base ≤ W.heap.size)
    (hs : a.eval s = v) (hx : a.eval x = .slice (some ⟨W.heap.size, 0, none⟩) 1 1)
    (h : ∀ v' w', (∀ w6 : World, (∀ c, c ≠ w2.heap.size → w6.heap[c]? = w'.heap[c]?) → Kids w6 (kids ++ [Pat.mk 0 t 0 0 []]) v') → Grew base w2.heap.size (W.alloc (.cells #[.int .i64 (Pat.mk 0 t 0 0 []).op, .int .u64 (wd (Pat.mk 0 t 0 0 []).set 0), .int .u64 (wd (Pat.mk 0 t 0 0 []).set 1), .int .u64 (wd (Pat.mk 0 t 0 0 []).set 2), .int .u64 (wd (Pat.mk 0 t 0 0 []).set 3), .int .i64 (Pat.mk 0 t 0 0 []).lo, .int .i64 (Pat.mk 0 t 0 0 []).hi, .slice none 0 0] 28)) w' → K (a.put o.dst v') w') :
    if Region.wanted o (yielded ops a.tmps) = true then Oper.wp Tryz.prog o a (W.alloc (.cells #[.int .i64 (Pat.mk 0 t 0 0 []).op, .int .u64 (wd (Pat.mk 0 t 0 0 []).set 0), .int .u64 (wd (Pat.mk 0 t 0 0 []).set 1), .int .u64 (wd (Pat.mk 0 t 0 0 []).set 2), .int .u64 (wd (Pat.mk 0 t 0 0 []).set 3), .int .i64 (Pat.mk 0 t 0 0 []).lo, .int .i64 (Pat.mk 0 t 0 0 []).hi, .slice none 0 0] 28)) K Q else E := by
  rcases hf with ht | ⟨L, h1, h2⟩
  · obtain ⟨ao, c, e⟩ := hk2.len
    rw [e] at ht
    have hc : c = kids.length := by simp only [tight, beq_iff_eq] at ht; exact ht.symm
    subst hc
    rw [e] at hk2 hs
    obtain ⟨v', w', hrun, hk', hg⟩ := run_push_tight w2 W ao kids (Pat.mk 0 t 0 0 []) (.slice none 0 0) o.type hk2 hbW hN rfl ⟨_, _, rfl⟩ (by omega)
    have hw : Region.wanted o (yielded ops a.tmps) = true := by simp [Region.wanted, hgd]
    rw [if_pos hw]
    have hfin := h v' w' hk' ⟨none, by simp, hg⟩
    unfold Oper.wp execOp
    simp only [ho, resolve, invoke, builtin, Sem.run_bind, Sem.run_pure, Result.andThen_ok, List.map_toArray, List.map_cons, List.map_nil, hs, hx, hrun]
    exact hfin
  · have hl : L.length < 100000 := by rw [h1, List.length_map] at hlen; omega
    refine step_push s x hgd ho W base v L (Pat.mk 0 t 0 0 []) none 0 0 (h2.below hbW) (Kids.nil _ _ _) (fun _ _ => Kids.nil _ _ _) hl (by omega) hs hx ?_
    intro g cap w' hrow hat hg
    have hgN : g ≠ w2.heap.size := by
      rcases hat with e | e
      · have := (h2.1.lt g e).2
        omega
      · omega
    refine h _ w' (fun w6 h6 => ?_) ⟨v.ownBlock, fun g e => h2.1.lt g e, hg⟩
    have hal := below_step hbW (below_1 W (.cells #[.int .i64 (Pat.mk 0 t 0 0 []).op, .int .u64 (wd (Pat.mk 0 t 0 0 []).set 0), .int .u64 (wd (Pat.mk 0 t 0 0 []).set 1), .int .u64 (wd (Pat.mk 0 t 0 0 []).set 2), .int .u64 (wd (Pat.mk 0 t 0 0 []).set 3), .int .i64 (Pat.mk 0 t 0 0 []).lo, .int .i64 (Pat.mk 0 t 0 0 []).hi, .slice none 0 0] 28))
    have ho6 : w6.ownsRow base 28 8 (.slice (some ⟨g, 0, none⟩) (L.length + 1) cap) (L ++ [(Pat.mk 0 t 0 0 [], Value.slice none 0 0)]).length (flatN (L ++ [(Pat.mk 0 t 0 0 [], Value.slice none 0 0)])) := by
      refine ⟨hrow.1.1, ?_⟩
      rcases hrow.1.2 with ⟨e, _⟩ | ⟨g', cap', cur, e, hge, hc, h5, h66, h7, h8⟩
      · cases e
      · have eg : g' = g := by
          injection e with e1 _ _
          injection e1 with e1
          injection e1 with e1 _ _
          exact e1.symm
        exact .inr ⟨g', cap', cur, e, hge, (h6 g' (by omega)).trans hc, h5, h66, h7, h8⟩
    have := own_kids ho6 fun y hy => by
      rcases List.mem_append.1 hy with hm | hm
      · exact kids_far (h2.2 y hm) fun c hc1 hc2 hc3 => ((h6 c (by omega)).trans (hg.block c (Nat.lt_of_lt_of_le hc3 hal.size) hc2)).trans (hal.block c hc3)
      · simp at hm
        subst hm
        exact Kids.nil _ _ _
    rw [List.map_append, ← h1] at this
    exact this
theorem push_size (p : Pat) (t : BitVec 256) : (Pat.mk p.op p.set p.lo p.hi (p.kids ++ [Pat.mk 0 t 0 0 []])).size = p.size + 1 := by
  rw [size_eq, size_eq p, kids_mk, sizes_append]
  simp [Pat.sizes, Pat.size]
  omega
theorem push_ok (p : Pat) (t : BitVec 256) (h3 : p.op ≠ 3) (h5 : p.op ≠ 5) (h : p.ok = true) : (Pat.mk p.op p.set p.lo p.hi (p.kids ++ [Pat.mk 0 t 0 0 []])).ok = true := by
  rw [ok_eq] at h ⊢
  simp only [kids_mk, op_mk, List.all_append, Bool.and_eq_true] at h ⊢
  refine ⟨by simp [h3, h5], h.2, ?_⟩
  simp [Pat.ok, okL]
theorem push_sm (p : Pat) (t : BitVec 256) (h3 : p.op ≠ 3) (h : p.sm = true) : (Pat.mk p.op p.set p.lo p.hi (p.kids ++ [Pat.mk 0 t 0 0 []])).sm = true := by
  have h2 := (sm_parts h).2
  simp only [Pat.sm, sms_all, Bool.and_eq_true, List.all_append, List.all_eq_true]
  refine ⟨by simp [h3], fun k hk => h2 k hk, ?_⟩
  simp [Pat.sm, Pat.sms]
theorem rshow_all : ∀ (n : Nat) (p : Pat), p.size ≤ n → p.size < 40000 → p.ok = true → p.sm = true → RShowAt p
  | 0, p, h, _, _, _ => by have := size_eq p; omega
  | n + 1, p, h, hb, hok, hsm => by
    have hs := size_eq p
    have hll := length_sizes p.kids
    obtain ⟨h3, hk⟩ := sm_parts hsm
    rw [ok_eq] at hok
    simp only [Bool.and_eq_true, List.all_eq_true] at hok
    have hS : ∀ k ∈ p.kids, RShowAt k := fun k hkm => by
      obtain ⟨i, hi, rfl⟩ := List.getElem_of_mem hkm
      have := size_kid p.kids i hi
      exact rshow_all n _ (by omega) (by omega) (hok.2 _ hkm) (hk _ hkm)
    by_cases hl : isL p.op = true ∧ p.kids.length = 1
    · obtain ⟨k, hk1⟩ := List.length_eq_one_iff.1 hl.2
      exact rshow_one p k hl.1 hk1 (hS k (by rw [hk1]; simp))
    · have hlen := shw_len _ p (Nat.le_refl _) hsm
      refine rshow_many p hl hS (fun h35 => ?_) h3 (by omega) (by omega)
      have h1 := hok.1
      rcases h35 with e | e
      · simpa [e] using h1
      · simpa [e] using h1
theorem str_is {z : ByteArray} {T : List UInt8} (h : z.data.toList = T) : z = ⟨T.toArray⟩ := by
  subst h
  rfl
theorem rshow_lit (p : Pat) (T : List UInt8) (hT : p.shw.2 = T) (a : Option Addr) (c : Nat) (w : World) (hk : Kids w p.kids (.slice a p.kids.length c)) (hb : p.size < 40000) (hok : p.ok = true) (hsm : p.sm = true) :
    Calls Tryz.prog 11 #[(.agg #[.int .i64 p.op, .int .u64 (wd p.set 0), .int .u64 (wd p.set 1), .int .u64 (wd p.set 2), .int .u64 (wd p.set 3), .int .i64 p.lo, .int .i64 p.hi, .slice a p.kids.length c])] w fun e w' => e = .returned (.string ⟨T.toArray⟩) ∧ Below w.heap.size w w' := by
  subst hT
  refine (rshow_all _ p (Nat.le_refl _) hb hok hsm a c w hk).mono ?_
  rintro e w' ⟨⟨z, rfl, hz⟩, hb'⟩
  rw [str_is hz]
  exact ⟨rfl, hb'⟩
theorem class_lit (s : BitVec 256) (T : List UInt8) (hT : classOut s = T) (w : World) (h : Tab w) : Calls Tryz.prog 12 #[(.agg #[.int .u64 (wd (s) 0), .int .u64 (wd (s) 1), .int .u64 (wd (s) 2), .int .u64 (wd (s) 3)])] w fun e w' => e = .returned (.string ⟨T.toArray⟩) ∧ Below w.heap.size w w' := by
  subst hT
  refine (class_text s w h).mono ?_
  rintro e w' ⟨rfl, hb⟩
  exact ⟨rfl, hb⟩
theorem rclass_lit (s : BitVec 256) (T : List UInt8) (hT : classOut s = T) (w : World) : Calls Tryz.prog 13 #[(.agg #[.int .u64 (wd (s) 0), .int .u64 (wd (s) 1), .int .u64 (wd (s) 2), .int .u64 (wd (s) 3)])] w fun e w' => e = .returned (.string ⟨T.toArray⟩) ∧ Below w.heap.size w w' := by
  subst hT
  refine (rclass_any s w).mono ?_
  rintro e w' ⟨⟨z, rfl, hz⟩, hb⟩
  rw [str_is hz]
  exact ⟨rfl, hb⟩
end Go.Proofs.YtkpfpegjapddfaaGreatDoor
set_option maxRecDepth 100000
namespace Go.Proofs.YtkpfpegjapddfaaGreatDoor
open Go.RowKit

/-- What region 7 leaves. -/
def Ap7 (w : World) (b3 b6 : Nat) (p : Pat) (t : BitVec 256) (W : World) : Prop := ∃ (a : Option Addr) (c : Nat), Box W b6 #[.int .i64 p.op, .int .u64 (wd p.set 0), .int .u64 (wd p.set 1), .int .u64 (wd p.set 2), .int .u64 (wd p.set 3), .int .i64 p.lo, .int .i64 p.hi, .slice a (p.kids.length + 1) c] ∧ Kids W (p.kids ++ [Pat.mk 0 t 0 0 []]) (.slice a (p.kids.length + 1) c) ∧ SetAt W b3 t ∧ Below w.heap.size w W
theorem ap7_mk {w W w4 w5 : World} {base b3 b6 : Nat} {p : Pat} {t : BitVec 256} {v v' : Value} (hbw : Below w.heap.size w W) (hb4 : Below W.heap.size W w4) (hb : w.heap.size ≤ base) (h36 : b3 < base) (hs : SetAt W b3 t) (hbb : w.heap.size ≤ b6) (hne : b3 ≠ b6)
    (hx : Box W b6 #[.int .i64 p.op, .int .u64 (wd p.set 0), .int .u64 (wd p.set 1), .int .u64 (wd p.set 2), .int .u64 (wd p.set 3), .int .i64 p.lo, .int .i64 p.hi, v]) (hg : Grew base b6 (w4.alloc (.cells #[.int .i64 (Pat.mk 0 t 0 0 []).op, .int .u64 (wd (Pat.mk 0 t 0 0 []).set 0), .int .u64 (wd (Pat.mk 0 t 0 0 []).set 1), .int .u64 (wd (Pat.mk 0 t 0 0 []).set 2), .int .u64 (wd (Pat.mk 0 t 0 0 []).set 3), .int .i64 (Pat.mk 0 t 0 0 []).lo, .int .i64 (Pat.mk 0 t 0 0 []).hi, .slice none 0 0] 28)) w5)
    (hK : ∀ w6 : World, (∀ c, c ≠ b6 → w6.heap[c]? = w5.heap[c]?) → Kids w6 (p.kids ++ [Pat.mk 0 t 0 0 []]) v') : Ap7 w b3 b6 p t (w5.setCell ⟨b6, 7, none⟩ v') := by
  obtain ⟨y, hy, hgy⟩ := hg
  have hfar := hK (w5.setCell ⟨b6, 7, none⟩ v') (fun c hc => Below.heap_setCell _ _ _ _ (by show c ≠ b6; exact hc))
  obtain ⟨a, c, e⟩ := hfar.len
  have e2 : (p.kids ++ [Pat.mk 0 t 0 0 []]).length = p.kids.length + 1 := by simp
  rw [e2] at e
  subst e
  have hal := below_step hb4 (below_1 w4 (.cells #[.int .i64 (Pat.mk 0 t 0 0 []).op, .int .u64 (wd (Pat.mk 0 t 0 0 []).set 0), .int .u64 (wd (Pat.mk 0 t 0 0 []).set 1), .int .u64 (wd (Pat.mk 0 t 0 0 []).set 2), .int .u64 (wd (Pat.mk 0 t 0 0 []).set 3), .int .i64 (Pat.mk 0 t 0 0 []).lo, .int .i64 (Pat.mk 0 t 0 0 []).hi, .slice none 0 0] 28))
  have hs4 : SetAt (w4.alloc (.cells #[.int .i64 (Pat.mk 0 t 0 0 []).op, .int .u64 (wd (Pat.mk 0 t 0 0 []).set 0), .int .u64 (wd (Pat.mk 0 t 0 0 []).set 1), .int .u64 (wd (Pat.mk 0 t 0 0 []).set 2), .int .u64 (wd (Pat.mk 0 t 0 0 []).set 3), .int .i64 (Pat.mk 0 t 0 0 []).lo, .int .i64 (Pat.mk 0 t 0 0 []).hi, .slice none 0 0] 28)) b3 t := hs.grown hal
  have hs5 : SetAt w5 b3 t := (hgy.block b3 hs4.lt (fun e => by have := (hy b3 e.symm).1; omega)).trans hs4
  have hx5 := (hx.below hal).grown hgy (fun e => by have := (hy b6 e).2; omega)
  have hb5 : Below w.heap.size w w5 := by
    have h4 := below_step hbw hal
    refine ⟨hgy.os.trans h4.os, hgy.tape.trans h4.tape, hgy.output.trans h4.output, Nat.le_trans h4.size hgy.size, fun k hk => ?_⟩
    exact (hgy.block k (Nat.lt_of_lt_of_le hk h4.size) (fun e => by have := (hy k e.symm).1; omega)).trans (h4.block k hk)
  refine ⟨a, c, hx5.set7 _, hfar, (Below.heap_setCell _ _ _ _ (by show b3 ≠ b6; exact hne)).trans hs5, hb5.setCell (p := ⟨b6, 7, none⟩) hbb _⟩
theorem ap7_form {w5 : World} {b6 : Nat} {p : Pat} {t : BitVec 256} {v' : Value} (hK : ∀ w6 : World, (∀ c, c ≠ b6 → w6.heap[c]? = w5.heap[c]?) → Kids w6 (p.kids ++ [Pat.mk 0 t 0 0 []]) v') : ∃ a c, v' = .slice a (p.kids.length + 1) c := by
  obtain ⟨a, c, e⟩ := (hK w5 (fun _ _ => rfl)).len
  have e2 : (p.kids ++ [Pat.mk 0 t 0 0 []]).length = p.kids.length + 1 := by simp
  exact ⟨a, c, by rw [e, e2]⟩
theorem ap7_cells {W w4 w5 : World} {base b6 : Nat} {p : Pat} {t : BitVec 256} {v : Value} (hb4 : Below W.heap.size W w4) (hx : Box W b6 #[.int .i64 p.op, .int .u64 (wd p.set 0), .int .u64 (wd p.set 1), .int .u64 (wd p.set 2), .int .u64 (wd p.set 3), .int .i64 p.lo, .int .i64 p.hi, v])
    (hg : Grew base b6 (w4.alloc (.cells #[.int .i64 (Pat.mk 0 t 0 0 []).op, .int .u64 (wd (Pat.mk 0 t 0 0 []).set 0), .int .u64 (wd (Pat.mk 0 t 0 0 []).set 1), .int .u64 (wd (Pat.mk 0 t 0 0 []).set 2), .int .u64 (wd (Pat.mk 0 t 0 0 []).set 3), .int .i64 (Pat.mk 0 t 0 0 []).lo, .int .i64 (Pat.mk 0 t 0 0 []).hi, .slice none 0 0] 28)) w5) : w5.cell? ⟨b6, 7, none⟩ = some v ∧ w5.frozen? ⟨b6, 7, none⟩ = false := by
  obtain ⟨y, hy, hgy⟩ := hg
  have hal := below_step hb4 (below_1 w4 (.cells #[.int .i64 (Pat.mk 0 t 0 0 []).op, .int .u64 (wd (Pat.mk 0 t 0 0 []).set 0), .int .u64 (wd (Pat.mk 0 t 0 0 []).set 1), .int .u64 (wd (Pat.mk 0 t 0 0 []).set 2), .int .u64 (wd (Pat.mk 0 t 0 0 []).set 3), .int .i64 (Pat.mk 0 t 0 0 []).lo, .int .i64 (Pat.mk 0 t 0 0 []).hi, .slice none 0 0] 28))
  have hx5 := (hx.below hal).grown hgy (fun e => by have := (hy b6 e).2; omega)
  exact ⟨hx5.cell 7, hx5.free 7⟩
noncomputable def reg10s : Code := ((Tryz.f3.body.bind (regionOf 10)).getD .skip)
set_option maxHeartbeats 8000000 in
theorem reg10s_any (K : Act → World → Prop) (W : World) (b3 b6 : Nat) (n : Pat) (t : BitVec 256) (a : Option Addr) (l c : Nat) (hl : n.kids.length = l) (hx : Box W b6 #[.int .i64 n.op, .int .u64 (wd n.set 0), .int .u64 (wd n.set 1), .int .u64 (wd n.set 2), .int .u64 (wd n.set 3), .int .i64 n.lo, .int .i64 n.hi, .slice a l c]) (hk : Kids W n.kids (.slice a l c)) (hs : SetAt W b3 t) (hT : Tab W)
    (hsz : n.size < 1000) (hok : n.ok = true) (hsm : n.sm = true) (t0 t1 t2 t4 t5 t7 t8 t9 t10 t11 t12 t13 t14 t15 t16 t17 t18 t19 t20 t21 t22 t23 t24 t25 t26 t27 t28 t29 t30 t31 t32 t33 t34 t35 t36 t37 t38 t39 t40 t41 t42 t43 t44 t45 t46 t47 t48 : Value)
    (HK : Hid (∀ (v37 v38 v39 v40 v41 v42 v43 v44 v45 v46 v47 v48 : Value) (wx : World), Below W.heap.size W wx → K ⟨#[t0, t1, t2, .pointer (some ⟨b3, 0, none⟩), .bool true, t5, .pointer (some ⟨b6, 0, none⟩), t7, t8, t9, t10, t11, t12, t13, t14, t15, t16, t17, t18, t19, t20, t21, t22, t23, t24, t25, t26, t27, t28, t29, t30, t31, t32, t33, t34, t35, t36, v37, v38, v39, v40, v41, v42, v43, v44, v45, v46, v47, v48], []⟩ wx)) :
    Code.wp Tryz.prog reg10s (Exit.then K (fun _ _ _ => False)) ⟨#[t0, t1, t2, .pointer (some ⟨b3, 0, none⟩), t4, t5, .pointer (some ⟨b6, 0, none⟩), t7, t8, t9, t10, t11, t12, t13, t14, t15, t16, t17, t18, t19, t20, t21, t22, t23, t24, t25, t26, t27, t28, t29, t30, t31, t32, t33, t34, t35, t36, t37, t38, t39, t40, t41, t42, t43, t44, t45, t46, t47, t48], []⟩ W := by
  subst hl
  conv => arg 2; whnf
  have hlen := shw_len _ n (Nat.le_refl _) hsm
  obtain ⟨T, hTT⟩ : ∃ z, n.shw.2 = z := ⟨_, rfl⟩
  obtain ⟨T2, hTT2⟩ : ∃ z, classOut t = z := ⟨_, rfl⟩
  rw [hTT] at hlen
  have HT := Lib.hid hTT
  have HT2 := Lib.hid hTT2
  have hlen' : T.length ≤ 99999999 := by omega
  have hsz2 : n.size < 99998 := by omega
  have hsz3 : n.size < 40000 := by omega
  clear hTT hTT2 hlen
  have hTd : Tab W.drew := hT.below (Below.refl _ _).drew
  have hkd := hk.drew
  have hlx := hx.lt
  have hls := hs.lt
  obtain ⟨d0, d1, d2, d3, d4, d5, d6, d7⟩ := hx.cells
  obtain ⟨s0, s1, s2, s3⟩ := hs.cells
  go_region_with (first
    | (go_at_call 10; (with_reducible refine (show_lit n T HT.out a c _ hTd hkd hsz2 hsm hlen').mono ?_); rintro e w2 ⟨rfl, hb2⟩; have hB2 : Below W.heap.size W w2 := (Below.refl W.heap.size W).drew.trans hb2; have hT2 := hT.below hB2; have hk2 := hk.below hB2; have hx2 := hx.below hB2; have hs2 := hs.grown hB2; clear d0 d1 d2 d3 d4 d5 d6 d7 s0 s1 s2 s3; obtain ⟨d0, d1, d2, d3, d4, d5, d6, d7⟩ := hx2.cells)
    | (go_at_call 11; (with_reducible refine (rshow_lit n T HT.out a c _ hk2 hsz3 hok hsm).mono ?_); rintro e w3 ⟨rfl, hb3⟩; have hB3 := below_step hB2 hb3; have hT3 := hT2.below hb3; have hs3 := hs2.grown hb3; clear d0 d1 d2 d3 d4 d5 d6 d7; obtain ⟨s0, s1, s2, s3⟩ := hs3.cells)
    | (go_at_call 12; (with_reducible refine (class_lit t T2 HT2.out _ hT3).mono ?_); rintro e w4 ⟨rfl, hb4⟩; have hB4 := below_step hB3 hb4; have hs4 := hs3.grown hb4; clear s0 s1 s2 s3; obtain ⟨s0, s1, s2, s3⟩ := hs4.cells)
    | (go_at_call 13; (with_reducible refine (rclass_lit t T2 HT2.out _).mono ?_); rintro e w5 ⟨rfl, hb5⟩; have hB5 := below_step hB4 hb5))
  all_goals
    go_wp2_with fail
    exact HK.out _ _ _ _ _ _ _ _ _ _ _ _ _ hB5
end Go.Proofs.YtkpfpegjapddfaaGreatDoor
