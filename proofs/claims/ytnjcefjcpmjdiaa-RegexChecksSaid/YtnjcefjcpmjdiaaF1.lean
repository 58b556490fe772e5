/- Contracts at the document's example. -/
import Derived.Test.YtnjcefjcpmjdiaaF0
import Derived.Test.YtnjcefjcpmjdiaaD8
import Derived.Test.YtnjcefjcpmjdiaaE6
import Derived.Test.YtnjcefjcpmjdiaaE7
import Derived.Test.YtnjcefjcpmjdiaaE9
import Derived.Test.YtnjcefjcpmjdiaaE3
import Derived.Test.YtnjcefjcpmjdiaaE5
set_option maxRecDepth 20000
namespace Go.Proofs.Ytnjcefjcpmjdiaa
open Go.RowKit

def sS : BitVec 256 := BitVec.ofNat 256 (1 + 2 * 2 ^ 64 + 3 * 2 ^ 128 + 4 * 2 ^ 192)
def s97 : BitVec 256 := ofB [97]
def pL : Pat := litP ⟨#[97]⟩
def pA : Pat := .mk 3 0 0 (-1) [pL]
def pS : Pat := .mk 0 sS 0 0 []
def pB : Pat := .mk 1 0 0 0 [pA, pS]
def pN : Pat := .mk 5 0 0 0 [pA]
def pR : Pat := .mk 3 0 3 2 [pA]
def pC : Pat := pB.back
theorem sS_wd : wd sS 0 = 1 ∧ wd sS 1 = 2 ∧ wd sS 2 = 3 ∧ wd sS 3 = 4 := by decide +kernel
theorem pA_nul : pA.nul = true := by decide +kernel
theorem pN_nul : pN.nul = false := by decide +kernel
theorem pB_size : pB.size = 5 := by decide +kernel
theorem pC_same : pC.same pB = false := by decide +kernel
theorem pB_fit : pB.fit 1 = true := by decide +kernel
theorem pR_fit : pR.fit 1 = false := by decide +kernel
theorem pA_bytes : pA.bytes = s97 := by decide +kernel
theorem pL_size : pL.size = 2 := by decide +kernel
theorem pA_size : pA.size = 3 := by decide +kernel
theorem pS_size : pS.size = 1 := by decide +kernel
theorem pN_size : pN.size = 4 := by decide +kernel
theorem pR_size : pR.size = 4 := by decide +kernel
theorem pC_size : pC.size = 5 := by unfold pC; rw [back_size, pB_size]

theorem lit_aw (w : World) : Calls Try.prog 11 #[.string { data := #[97] }] w fun e w' => ∃ a c, e = .returned (.agg #[.int .i64 pL.op, .int .u64 (wd pL.set 0), .int .u64 (wd pL.set 1), .int .u64 (wd pL.set 2), .int .u64 (wd pL.set 3), .int .i64 pL.lo, .int .i64 pL.hi, .slice a 1 c]) ∧ Kids w' pL.kids (.slice a 1 c) ∧ Below w.heap.size w w' := by
  refine (lit_any ⟨#[97]⟩ w (by decide)).mono ?_
  rintro e w' ⟨ks, rfl, hk, hb⟩
  obtain ⟨a1, c1, rfl, hk'⟩ := kids_form hk
  exact ⟨a1, c1, rfl, hk', hb⟩
theorem rep_aw (a : Option Addr) (c : Nat) (w : World) (hk : Kids w pL.kids (.slice a 1 c)) : Calls Try.prog 21 #[(.agg #[.int .i64 pL.op, .int .u64 (wd pL.set 0), .int .u64 (wd pL.set 1), .int .u64 (wd pL.set 2), .int .u64 (wd pL.set 3), .int .i64 pL.lo, .int .i64 pL.hi, .slice a 1 c]), .int .i64 0, .int .i64 (-1)] w fun e w' => ∃ a c, e = .returned (.agg #[.int .i64 pA.op, .int .u64 (wd pA.set 0), .int .u64 (wd pA.set 1), .int .u64 (wd pA.set 2), .int .u64 (wd pA.set 3), .int .i64 pA.lo, .int .i64 pA.hi, .slice a 1 c]) ∧ Kids w' pA.kids (.slice a 1 c) ∧ Below w.heap.size w w' := by
  refine (rep_any pL _ 0 (-1) w (by rw [pL_size]; omega) hk).mono ?_
  rintro e w' ⟨ks, rfl, hk, hb⟩
  obtain ⟨a1, c1, rfl, hk'⟩ := kids_form hk
  exact ⟨a1, c1, rfl, hk', hb⟩
theorem set_aw (w : World) : Calls Try.prog 14 #[.agg #[.int .u64 1, .int .u64 2, .int .u64 3, .int .u64 4]] w fun e w' => ∃ a c, e = .returned (.agg #[.int .i64 pS.op, .int .u64 (wd pS.set 0), .int .u64 (wd pS.set 1), .int .u64 (wd pS.set 2), .int .u64 (wd pS.set 3), .int .i64 pS.lo, .int .i64 pS.hi, .slice a 0 c]) ∧ Below w.heap.size w w' := by
  have h := set_any sS w
  rw [sS_wd.1, sS_wd.2.1, sS_wd.2.2.1, sS_wd.2.2.2] at h
  refine Calls.mono h ?_
  rintro e w' ⟨ks, rfl, hk, hb⟩
  obtain ⟨a1, c1, rfl, hk'⟩ := kids_form hk
  refine ⟨a1, c1, ?_, hb⟩
  show _ = Ending.returned (.agg #[.int .i64 pS.op, .int .u64 (wd sS 0), .int .u64 (wd sS 1), .int .u64 (wd sS 2), .int .u64 (wd sS 3), .int .i64 pS.lo, .int .i64 pS.hi, .slice a1 0 c1])
  rw [sS_wd.1, sS_wd.2.1, sS_wd.2.2.1, sS_wd.2.2.2]
  rfl
theorem Kids.two' {w : World} {p q : Pat} {ks js : Value} {n : Nat} (hn : w.heap.size = n) (h : Kids (w.alloc (.cells #[.int .i64 p.op, .int .u64 (wd p.set 0), .int .u64 (wd p.set 1), .int .u64 (wd p.set 2), .int .u64 (wd p.set 3), .int .i64 p.lo, .int .i64 p.hi, ks, .int .i64 q.op, .int .u64 (wd q.set 0), .int .u64 (wd q.set 1), .int .u64 (wd q.set 2), .int .u64 (wd q.set 3), .int .i64 q.lo, .int .i64 q.hi, js] 28)) p.kids ks) (h2 : Kids (w.alloc (.cells #[.int .i64 p.op, .int .u64 (wd p.set 0), .int .u64 (wd p.set 1), .int .u64 (wd p.set 2), .int .u64 (wd p.set 3), .int .i64 p.lo, .int .i64 p.hi, ks, .int .i64 q.op, .int .u64 (wd q.set 0), .int .u64 (wd q.set 1), .int .u64 (wd q.set 2), .int .u64 (wd q.set 3), .int .i64 q.lo, .int .i64 q.hi, js] 28)) q.kids js) : Kids (w.alloc (.cells #[.int .i64 p.op, .int .u64 (wd p.set 0), .int .u64 (wd p.set 1), .int .u64 (wd p.set 2), .int .u64 (wd p.set 3), .int .i64 p.lo, .int .i64 p.hi, ks, .int .i64 q.op, .int .u64 (wd q.set 0), .int .u64 (wd q.set 1), .int .u64 (wd q.set 2), .int .u64 (wd q.set 3), .int .i64 q.lo, .int .i64 q.hi, js] 28)) [p, q] (.slice (some ⟨n, 0, none⟩) 2 2) := by
  subst hn
  refine .inr ⟨w.heap.size, 0, 2, rfl, ?_⟩
  unfold RowAt RowAt RowAt
  refine ⟨NodeAt.of h fun j hj => ?_, NodeAt.of h2 fun j hj => ?_, trivial⟩
  · match j, hj with
    | 0, _ | 1, _ | 2, _ | 3, _ | 4, _ | 5, _ | 6, _ | 7, _ => simp
  · match j, hj with
    | 0, _ | 1, _ | 2, _ | 3, _ | 4, _ | 5, _ | 6, _ | 7, _ => simp
/-- .. and where one more block was made behind it. -/
theorem Kids.two2 {w : World} {p q : Pat} {ks js : Value} {n : Nat} {o : Obj} (hn : w.heap.size = n) (h : Kids ((w.alloc (.cells #[.int .i64 p.op, .int .u64 (wd p.set 0), .int .u64 (wd p.set 1), .int .u64 (wd p.set 2), .int .u64 (wd p.set 3), .int .i64 p.lo, .int .i64 p.hi, ks, .int .i64 q.op, .int .u64 (wd q.set 0), .int .u64 (wd q.set 1), .int .u64 (wd q.set 2), .int .u64 (wd q.set 3), .int .i64 q.lo, .int .i64 q.hi, js] 28)).alloc o) p.kids ks) (h2 : Kids ((w.alloc (.cells #[.int .i64 p.op, .int .u64 (wd p.set 0), .int .u64 (wd p.set 1), .int .u64 (wd p.set 2), .int .u64 (wd p.set 3), .int .i64 p.lo, .int .i64 p.hi, ks, .int .i64 q.op, .int .u64 (wd q.set 0), .int .u64 (wd q.set 1), .int .u64 (wd q.set 2), .int .u64 (wd q.set 3), .int .i64 q.lo, .int .i64 q.hi, js] 28)).alloc o) q.kids js) : Kids ((w.alloc (.cells #[.int .i64 p.op, .int .u64 (wd p.set 0), .int .u64 (wd p.set 1), .int .u64 (wd p.set 2), .int .u64 (wd p.set 3), .int .i64 p.lo, .int .i64 p.hi, ks, .int .i64 q.op, .int .u64 (wd q.set 0), .int .u64 (wd q.set 1), .int .u64 (wd q.set 2), .int .u64 (wd q.set 3), .int .i64 q.lo, .int .i64 q.hi, js] 28)).alloc o) [p, q] (.slice (some ⟨n, 0, none⟩) 2 2) := by
  subst hn
  have hB := below_one (w.alloc (.cells #[.int .i64 p.op, .int .u64 (wd p.set 0), .int .u64 (wd p.set 1), .int .u64 (wd p.set 2), .int .u64 (wd p.set 3), .int .i64 p.lo, .int .i64 p.hi, ks, .int .i64 q.op, .int .u64 (wd q.set 0), .int .u64 (wd q.set 1), .int .u64 (wd q.set 2), .int .u64 (wd q.set 3), .int .i64 q.lo, .int .i64 q.hi, js] 28)) o
  refine .inr ⟨w.heap.size, 0, 2, rfl, ?_⟩
  unfold RowAt RowAt RowAt
  refine ⟨NodeAt.of h fun j hj => ?_, NodeAt.of h2 fun j hj => ?_, trivial⟩
  · match j, hj with
    | 0, _ | 1, _ | 2, _ | 3, _ | 4, _ | 5, _ | 6, _ | 7, _ => exact cell_below hB (by simp)
  · match j, hj with
    | 0, _ | 1, _ | 2, _ | 3, _ | 4, _ | 5, _ | 6, _ | 7, _ => exact cell_below hB (by simp)
theorem kids_formN {w : World} {lo : Nat} {l : List Pat} {js : Value} (h : KidsN w lo l js) : ∃ a c, js = .slice a l.length c ∧ KidsN w lo l (.slice a l.length c) := by
  obtain ⟨a, c, rfl⟩ := h.kids.len
  exact ⟨a, c, rfl, h⟩
theorem cat_aw (a a' : Option Addr) (c c' : Nat) (w : World) (n : Nat) (hn : w.heap.size = n) (hA : Kids (w.alloc (.cells #[.int .i64 pA.op, .int .u64 (wd pA.set 0), .int .u64 (wd pA.set 1), .int .u64 (wd pA.set 2), .int .u64 (wd pA.set 3), .int .i64 pA.lo, .int .i64 pA.hi, .slice a 1 c, .int .i64 pS.op, .int .u64 (wd pS.set 0), .int .u64 (wd pS.set 1), .int .u64 (wd pS.set 2), .int .u64 (wd pS.set 3), .int .i64 pS.lo, .int .i64 pS.hi, .slice a' 0 c'] 28)) pA.kids (.slice a 1 c)) :
    Calls Try.prog 16 #[.slice (some ⟨n, 0, none⟩) 2 2] (w.alloc (.cells #[.int .i64 pA.op, .int .u64 (wd pA.set 0), .int .u64 (wd pA.set 1), .int .u64 (wd pA.set 2), .int .u64 (wd pA.set 3), .int .i64 pA.lo, .int .i64 pA.hi, .slice a 1 c, .int .i64 pS.op, .int .u64 (wd pS.set 0), .int .u64 (wd pS.set 1), .int .u64 (wd pS.set 2), .int .u64 (wd pS.set 3), .int .i64 pS.lo, .int .i64 pS.hi, .slice a' 0 c'] 28)) fun e w' => ∃ a1 c1, e = .returned (.agg #[.int .i64 pB.op, .int .u64 (wd pB.set 0), .int .u64 (wd pB.set 1), .int .u64 (wd pB.set 2), .int .u64 (wd pB.set 3), .int .i64 pB.lo, .int .i64 pB.hi, .slice a1 2 c1]) ∧ KidsN w' (n + 1) pB.kids (.slice a1 2 c1) ∧ Below (w.alloc (.cells #[.int .i64 pA.op, .int .u64 (wd pA.set 0), .int .u64 (wd pA.set 1), .int .u64 (wd pA.set 2), .int .u64 (wd pA.set 3), .int .i64 pA.lo, .int .i64 pA.hi, .slice a 1 c, .int .i64 pS.op, .int .u64 (wd pS.set 0), .int .u64 (wd pS.set 1), .int .u64 (wd pS.set 2), .int .u64 (wd pS.set 3), .int .i64 pS.lo, .int .i64 pS.hi, .slice a' 0 c'] 28)).heap.size (w.alloc (.cells #[.int .i64 pA.op, .int .u64 (wd pA.set 0), .int .u64 (wd pA.set 1), .int .u64 (wd pA.set 2), .int .u64 (wd pA.set 3), .int .i64 pA.lo, .int .i64 pA.hi, .slice a 1 c, .int .i64 pS.op, .int .u64 (wd pS.set 0), .int .u64 (wd pS.set 1), .int .u64 (wd pS.set 2), .int .u64 (wd pS.set 3), .int .i64 pS.lo, .int .i64 pS.hi, .slice a' 0 c'] 28)) w' := by
  refine (cat_any [pA, pS] _ _ (by simp only [Pat.sizes, pA_size, pS_size]; omega) (Kids.two' (p := pA) (q := pS) hn hA (Kids.nil _ a' c'))).mono ?_
  rintro e w' ⟨ks, rfl, hk, hb⟩
  obtain ⟨a1, c1, rfl, hk'⟩ := kids_formN hk
  exact ⟨a1, c1, rfl, hk'.mono (by simp [hn]), hb⟩
theorem cat_aw2 (a a' : Option Addr) (c c' : Nat) (o : Obj) (w : World) (n : Nat) (hn : w.heap.size = n) (hA : Kids ((w.alloc (.cells #[.int .i64 pA.op, .int .u64 (wd pA.set 0), .int .u64 (wd pA.set 1), .int .u64 (wd pA.set 2), .int .u64 (wd pA.set 3), .int .i64 pA.lo, .int .i64 pA.hi, .slice a 1 c, .int .i64 pS.op, .int .u64 (wd pS.set 0), .int .u64 (wd pS.set 1), .int .u64 (wd pS.set 2), .int .u64 (wd pS.set 3), .int .i64 pS.lo, .int .i64 pS.hi, .slice a' 0 c'] 28)).alloc o) pA.kids (.slice a 1 c)) :
    Calls Try.prog 16 #[.slice (some ⟨n, 0, none⟩) 2 2] ((w.alloc (.cells #[.int .i64 pA.op, .int .u64 (wd pA.set 0), .int .u64 (wd pA.set 1), .int .u64 (wd pA.set 2), .int .u64 (wd pA.set 3), .int .i64 pA.lo, .int .i64 pA.hi, .slice a 1 c, .int .i64 pS.op, .int .u64 (wd pS.set 0), .int .u64 (wd pS.set 1), .int .u64 (wd pS.set 2), .int .u64 (wd pS.set 3), .int .i64 pS.lo, .int .i64 pS.hi, .slice a' 0 c'] 28)).alloc o) fun e w' => ∃ a1 c1, e = .returned (.agg #[.int .i64 pB.op, .int .u64 (wd pB.set 0), .int .u64 (wd pB.set 1), .int .u64 (wd pB.set 2), .int .u64 (wd pB.set 3), .int .i64 pB.lo, .int .i64 pB.hi, .slice a1 2 c1]) ∧ KidsN w' (n + 1 + 1) pB.kids (.slice a1 2 c1) ∧ Below ((w.alloc (.cells #[.int .i64 pA.op, .int .u64 (wd pA.set 0), .int .u64 (wd pA.set 1), .int .u64 (wd pA.set 2), .int .u64 (wd pA.set 3), .int .i64 pA.lo, .int .i64 pA.hi, .slice a 1 c, .int .i64 pS.op, .int .u64 (wd pS.set 0), .int .u64 (wd pS.set 1), .int .u64 (wd pS.set 2), .int .u64 (wd pS.set 3), .int .i64 pS.lo, .int .i64 pS.hi, .slice a' 0 c'] 28)).alloc o).heap.size ((w.alloc (.cells #[.int .i64 pA.op, .int .u64 (wd pA.set 0), .int .u64 (wd pA.set 1), .int .u64 (wd pA.set 2), .int .u64 (wd pA.set 3), .int .i64 pA.lo, .int .i64 pA.hi, .slice a 1 c, .int .i64 pS.op, .int .u64 (wd pS.set 0), .int .u64 (wd pS.set 1), .int .u64 (wd pS.set 2), .int .u64 (wd pS.set 3), .int .i64 pS.lo, .int .i64 pS.hi, .slice a' 0 c'] 28)).alloc o) w' := by
  refine (cat_any [pA, pS] _ _ (by simp only [Pat.sizes, pA_size, pS_size]; omega) (Kids.two2 (p := pA) (q := pS) hn hA (Kids.nil _ a' c'))).mono ?_
  rintro e w' ⟨ks, rfl, hk, hb⟩
  obtain ⟨a1, c1, rfl, hk'⟩ := kids_formN hk
  exact ⟨a1, c1, rfl, hk'.mono (by simp [hn]), hb⟩
theorem fld4 (v0 v1 v2 v3 v4 v5 v6 v7 : Value) (w : World) : (Instr.field 28 (.agg #[v0, v1, v2, v3, v4, v5, v6, v7]) 4).run Try.prog w = .ok v7 w := by kernel_rfl
theorem fld0 (v0 v1 v2 v3 v4 v5 v6 v7 : Value) (w : World) : (Instr.field 28 (.agg #[v0, v1, v2, v3, v4, v5, v6, v7]) 0).run Try.prog w = .ok v0 w := by kernel_rfl
theorem null_A (ks : Value) (w : World) (hk : Kids w pA.kids ks) : Calls Try.prog 23 #[(.agg #[.int .i64 pA.op, .int .u64 (wd pA.set 0), .int .u64 (wd pA.set 1), .int .u64 (wd pA.set 2), .int .u64 (wd pA.set 3), .int .i64 pA.lo, .int .i64 pA.hi, ks])] w fun e w' => e = .returned (.bool true) ∧ Below w.heap.size w w' := by
  have := null_any 9 pA ks w (by rw [pA_size]; omega) (by omega) hk
  rw [pA_nul] at this; exact this
theorem null_N (ks : Value) (w : World) (hk : Kids w pN.kids ks) : Calls Try.prog 23 #[(.agg #[.int .i64 pN.op, .int .u64 (wd pN.set 0), .int .u64 (wd pN.set 1), .int .u64 (wd pN.set 2), .int .u64 (wd pN.set 3), .int .i64 pN.lo, .int .i64 pN.hi, ks])] w fun e w' => e = .returned (.bool false) ∧ Below w.heap.size w w' := by
  have := null_any 9 pN ks w (by rw [pN_size]; omega) (by omega) hk
  rw [pN_nul] at this; exact this
theorem not_A (ks : Value) (w : World) (hk : Kids w pA.kids ks) : Calls Try.prog 20 #[(.agg #[.int .i64 pA.op, .int .u64 (wd pA.set 0), .int .u64 (wd pA.set 1), .int .u64 (wd pA.set 2), .int .u64 (wd pA.set 3), .int .i64 pA.lo, .int .i64 pA.hi, ks])] w fun e w' => ∃ a c, e = .returned (.agg #[.int .i64 pN.op, .int .u64 (wd pN.set 0), .int .u64 (wd pN.set 1), .int .u64 (wd pN.set 2), .int .u64 (wd pN.set 3), .int .i64 pN.lo, .int .i64 pN.hi, .slice a 1 c]) ∧ Kids w' pN.kids (.slice a 1 c) ∧ Below w.heap.size w w' := by
  refine (not_any pA _ w (by rw [pA_size]; omega) hk).mono ?_
  rintro e w' ⟨ks, rfl, hk, hb⟩
  obtain ⟨a1, c1, rfl, hk'⟩ := kids_form hk
  exact ⟨a1, c1, rfl, hk', hb⟩
theorem size_B (ks : Value) (w : World) (hk : Kids w pB.kids ks) : Calls Try.prog 25 #[(.agg #[.int .i64 pB.op, .int .u64 (wd pB.set 0), .int .u64 (wd pB.set 1), .int .u64 (wd pB.set 2), .int .u64 (wd pB.set 3), .int .i64 pB.lo, .int .i64 pB.hi, ks])] w fun e w' => e = .returned (.int .i64 5) ∧ Below w.heap.size w w' := by
  have := size_any pB ks w (by rw [pB_size]; omega) hk
  rw [pB_size] at this; exact this
theorem back_B (ks : Value) (w : World) (hk : Kids w pB.kids ks) : Calls Try.prog 29 #[(.agg #[.int .i64 pB.op, .int .u64 (wd pB.set 0), .int .u64 (wd pB.set 1), .int .u64 (wd pB.set 2), .int .u64 (wd pB.set 3), .int .i64 pB.lo, .int .i64 pB.hi, ks])] w fun e w' => ∃ a c, e = .returned (.agg #[.int .i64 pC.op, .int .u64 (wd pC.set 0), .int .u64 (wd pC.set 1), .int .u64 (wd pC.set 2), .int .u64 (wd pC.set 3), .int .i64 pC.lo, .int .i64 pC.hi, .slice a 2 c]) ∧ Kids w' pC.kids (.slice a 2 c) ∧ Below w.heap.size w w' := by
  refine (back_any 9 pB _ w (by rw [pB_size]; omega) (by omega) hk).mono ?_
  rintro e w' ⟨ks, rfl, hk, hb⟩
  obtain ⟨a1, c1, rfl, hk'⟩ := kids_form hk
  exact ⟨a1, c1, rfl, hk', hb⟩
theorem back_C (ks : Value) (w : World) (hk : Kids w pC.kids ks) : Calls Try.prog 29 #[(.agg #[.int .i64 pC.op, .int .u64 (wd pC.set 0), .int .u64 (wd pC.set 1), .int .u64 (wd pC.set 2), .int .u64 (wd pC.set 3), .int .i64 pC.lo, .int .i64 pC.hi, ks])] w fun e w' => ∃ a c, e = .returned (.agg #[.int .i64 pB.op, .int .u64 (wd pB.set 0), .int .u64 (wd pB.set 1), .int .u64 (wd pB.set 2), .int .u64 (wd pB.set 3), .int .i64 pB.lo, .int .i64 pB.hi, .slice a 2 c]) ∧ Kids w' pB.kids (.slice a 2 c) ∧ Below w.heap.size w w' := by
  have h := back_any 9 pC ks w (by rw [pC_size]; omega) (by omega) hk
  rw [show pC.back = pB from back_back pB] at h
  refine h.mono ?_
  rintro e w' ⟨ks, rfl, hk, hb⟩
  obtain ⟨a1, c1, rfl, hk'⟩ := kids_form hk
  exact ⟨a1, c1, rfl, hk', hb⟩
theorem same_B (ks js : Value) (w : World) (hk : Kids w pB.kids ks) (hj : Kids w pB.kids js) : Calls Try.prog 10 #[(.agg #[.int .i64 pB.op, .int .u64 (wd pB.set 0), .int .u64 (wd pB.set 1), .int .u64 (wd pB.set 2), .int .u64 (wd pB.set 3), .int .i64 pB.lo, .int .i64 pB.hi, ks]), (.agg #[.int .i64 pB.op, .int .u64 (wd pB.set 0), .int .u64 (wd pB.set 1), .int .u64 (wd pB.set 2), .int .u64 (wd pB.set 3), .int .i64 pB.lo, .int .i64 pB.hi, js])] w fun e w' => e = .returned (.bool true) ∧ Below w.heap.size w w' := by
  have := same_any 9 pB pB ks js w (by rw [pB_size]; omega) (by omega) hk hj
  rw [same_self] at this; exact this
theorem same_C (ks js : Value) (w : World) (hk : Kids w pC.kids ks) (hj : Kids w pB.kids js) : Calls Try.prog 10 #[(.agg #[.int .i64 pC.op, .int .u64 (wd pC.set 0), .int .u64 (wd pC.set 1), .int .u64 (wd pC.set 2), .int .u64 (wd pC.set 3), .int .i64 pC.lo, .int .i64 pC.hi, ks]), (.agg #[.int .i64 pB.op, .int .u64 (wd pB.set 0), .int .u64 (wd pB.set 1), .int .u64 (wd pB.set 2), .int .u64 (wd pB.set 3), .int .i64 pB.lo, .int .i64 pB.hi, js])] w fun e w' => e = .returned (.bool false) ∧ Below w.heap.size w w' := by
  have := same_any 9 pC pB ks js w (by rw [pC_size]; omega) (by omega) hk hj
  rw [pC_same] at this; exact this
theorem check_B (ks : Value) (w : World) (hk : Kids w pB.kids ks) : Calls Try.prog 31 #[(.agg #[.int .i64 pB.op, .int .u64 (wd pB.set 0), .int .u64 (wd pB.set 1), .int .u64 (wd pB.set 2), .int .u64 (wd pB.set 3), .int .i64 pB.lo, .int .i64 pB.hi, ks])] w fun e w' => e = .returned (.int .i64 0) ∧ Below w.heap.size w w' := by
  have := check_any pB ks w (by rw [pB_size]; omega) hk
  rw [pB_fit] at this; exact this
theorem rep_R (ks : Value) (w : World) (hk : Kids w pA.kids ks) : Calls Try.prog 21 #[(.agg #[.int .i64 pA.op, .int .u64 (wd pA.set 0), .int .u64 (wd pA.set 1), .int .u64 (wd pA.set 2), .int .u64 (wd pA.set 3), .int .i64 pA.lo, .int .i64 pA.hi, ks]), .int .i64 3, .int .i64 2] w fun e w' => ∃ a c, e = .returned (.agg #[.int .i64 pR.op, .int .u64 (wd pR.set 0), .int .u64 (wd pR.set 1), .int .u64 (wd pR.set 2), .int .u64 (wd pR.set 3), .int .i64 pR.lo, .int .i64 pR.hi, .slice a 1 c]) ∧ Kids w' pR.kids (.slice a 1 c) ∧ Below w.heap.size w w' := by
  refine (rep_any pA _ 3 2 w (by rw [pA_size]; omega) hk).mono ?_
  rintro e w' ⟨ks, rfl, hk, hb⟩
  obtain ⟨a1, c1, rfl, hk'⟩ := kids_form hk
  exact ⟨a1, c1, rfl, hk', hb⟩
theorem check_R (ks : Value) (w : World) (hk : Kids w pR.kids ks) : Calls Try.prog 31 #[(.agg #[.int .i64 pR.op, .int .u64 (wd pR.set 0), .int .u64 (wd pR.set 1), .int .u64 (wd pR.set 2), .int .u64 (wd pR.set 3), .int .i64 pR.lo, .int .i64 pR.hi, ks])] w fun e w' => e = .returned (.int .i64 1) ∧ Below w.heap.size w w' := by
  have := check_any pR ks w (by rw [pR_size]; omega) hk
  rw [pR_fit] at this; exact this
theorem bytes_A (ks : Value) (w : World) (hk : Kids w pA.kids ks) : Calls Try.prog 27 #[(.agg #[.int .i64 pA.op, .int .u64 (wd pA.set 0), .int .u64 (wd pA.set 1), .int .u64 (wd pA.set 2), .int .u64 (wd pA.set 3), .int .i64 pA.lo, .int .i64 pA.hi, ks])] w fun e w' => e = .returned (.agg #[.int .u64 (wd (s97) 0), .int .u64 (wd (s97) 1), .int .u64 (wd (s97) 2), .int .u64 (wd (s97) 3)]) ∧ Below w.heap.size w w' := by
  have := bytes_any pA ks w (by rw [pA_size]; omega) hk
  rw [pA_bytes] at this; exact this
theorem of_aw (w : World) : Calls Try.prog 34 #[.string { data := #[97] }] w fun e w' => e = .returned (.agg #[.int .u64 (wd (s97) 0), .int .u64 (wd (s97) 1), .int .u64 (wd (s97) 2), .int .u64 (wd (s97) 3)]) ∧ Below w.heap.size w w' := rof_any ⟨#[97]⟩ w (by decide)
theorem alt_aw (ka kb : Value) (w : World) (n : Nat) (hn : w.heap.size = n) (hA : Kids (w.alloc (.cells #[.int .i64 pA.op, .int .u64 (wd pA.set 0), .int .u64 (wd pA.set 1), .int .u64 (wd pA.set 2), .int .u64 (wd pA.set 3), .int .i64 pA.lo, .int .i64 pA.hi, ka, .int .i64 pB.op, .int .u64 (wd pB.set 0), .int .u64 (wd pB.set 1), .int .u64 (wd pB.set 2), .int .u64 (wd pB.set 3), .int .i64 pB.lo, .int .i64 pB.hi, kb] 28)) pA.kids ka) (hB : Kids (w.alloc (.cells #[.int .i64 pA.op, .int .u64 (wd pA.set 0), .int .u64 (wd pA.set 1), .int .u64 (wd pA.set 2), .int .u64 (wd pA.set 3), .int .i64 pA.lo, .int .i64 pA.hi, ka, .int .i64 pB.op, .int .u64 (wd pB.set 0), .int .u64 (wd pB.set 1), .int .u64 (wd pB.set 2), .int .u64 (wd pB.set 3), .int .i64 pB.lo, .int .i64 pB.hi, kb] 28)) pB.kids kb) :
    Calls Try.prog 18 #[.slice (some ⟨n, 0, none⟩) 2 2] (w.alloc (.cells #[.int .i64 pA.op, .int .u64 (wd pA.set 0), .int .u64 (wd pA.set 1), .int .u64 (wd pA.set 2), .int .u64 (wd pA.set 3), .int .i64 pA.lo, .int .i64 pA.hi, ka, .int .i64 pB.op, .int .u64 (wd pB.set 0), .int .u64 (wd pB.set 1), .int .u64 (wd pB.set 2), .int .u64 (wd pB.set 3), .int .i64 pB.lo, .int .i64 pB.hi, kb] 28)) fun e w' => ∃ a c, e = .returned (.agg #[.int .i64 2, .int .u64 0, .int .u64 0, .int .u64 0, .int .u64 0, .int .i64 0, .int .i64 0, .slice a 2 c]) ∧ Below (w.alloc (.cells #[.int .i64 pA.op, .int .u64 (wd pA.set 0), .int .u64 (wd pA.set 1), .int .u64 (wd pA.set 2), .int .u64 (wd pA.set 3), .int .i64 pA.lo, .int .i64 pA.hi, ka, .int .i64 pB.op, .int .u64 (wd pB.set 0), .int .u64 (wd pB.set 1), .int .u64 (wd pB.set 2), .int .u64 (wd pB.set 3), .int .i64 pB.lo, .int .i64 pB.hi, kb] 28)).heap.size (w.alloc (.cells #[.int .i64 pA.op, .int .u64 (wd pA.set 0), .int .u64 (wd pA.set 1), .int .u64 (wd pA.set 2), .int .u64 (wd pA.set 3), .int .i64 pA.lo, .int .i64 pA.hi, ka, .int .i64 pB.op, .int .u64 (wd pB.set 0), .int .u64 (wd pB.set 1), .int .u64 (wd pB.set 2), .int .u64 (wd pB.set 3), .int .i64 pB.lo, .int .i64 pB.hi, kb] 28)) w' := by
  refine (alt_any [pA, pB] _ _ (by simp only [Pat.sizes, pA_size, pB_size]; omega) (Kids.two' hn hA hB)).mono ?_
  rintro e w' ⟨ks, rfl, hk, hb⟩
  obtain ⟨a1, c1, rfl, hk'⟩ := kids_form hk
  refine ⟨a1, c1, ?_, hb⟩
  rfl
theorem and_aw (w : World) : Calls Try.prog 19 #[.slice none 0 0] w fun e w' => ∃ a c, e = .returned (.agg #[.int .i64 4, .int .u64 0, .int .u64 0, .int .u64 0, .int .u64 0, .int .i64 0, .int .i64 0, .slice a 0 c]) ∧ Below w.heap.size w w' := by
  refine (and_any [] _ w (by decide) (Kids.nil w none 0)).mono ?_
  rintro e w' ⟨ks, rfl, hk, hb⟩
  obtain ⟨a1, c1, rfl, hk'⟩ := kids_form hk
  refine ⟨a1, c1, ?_, hb⟩
  rfl
end Go.Proofs.Ytnjcefjcpmjdiaa
