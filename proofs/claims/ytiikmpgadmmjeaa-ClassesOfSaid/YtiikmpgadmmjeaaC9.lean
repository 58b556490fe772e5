/- Contracts: slices.Backward over a row of 256 bytes, and the iterator that it hands back. -/
import Derived.Test.YtiikmpgadmmjeaaC5
set_option maxRecDepth 100000
namespace Go.Proofs.Ytiikmpgadmmjeaa
open Go.RowKit Go.Shelf
attribute [local go_sem] Oper.semAt_some

theorem back_any (b : Nat) (w : World) :
    Calls Try.prog 26 #[.slice (some ⟨b, 0, none⟩) 256 256] w fun e w' => e = .returned (.func (.func 40) #[] #[.pointer (some ⟨w.heap.size, 0, none⟩)]) ∧ w' = w.alloc (.cells #[.slice (some ⟨b, 0, none⟩) 256 256] 28) := by
  go_enter Try.func26, Try.ntmps26
  go_wp2
  go_ret
  exact ⟨rfl, rfl⟩
/-- Below n₀ all is as it was, and rows of 256 bytes and boxes of slices stay. -/
def KeepU (n₀ : Nat) (W W' : World) : Prop := Below n₀ W W' ∧ ∀ (k : Nat) (c : Array Value) (t : TypeId) (fz : Nat × Nat), t = 24 ∨ t = 28 → W.heap[k]? = some (Obj.cells c t fz) → W'.heap[k]? = some (Obj.cells c t fz)
theorem KeepU.row {n₀ : Nat} {W W' : World} (h : KeepU n₀ W W') {b : Nat} {f : Nat → Nat} (hs : UBlk W b f) : UBlk W' b f := h.2 b _ _ _ (.inl rfl) hs
theorem KeepU.box {n₀ : Nat} {W W' : World} (h : KeepU n₀ W W') {b : Nat} {v : Value} (hs : Boxed W b 28 v) : Boxed W' b 28 v := h.2 b _ _ _ (.inr rfl) hs
theorem KeepU.trans {n₀ : Nat} {A B C : World} (h : KeepU n₀ A B) (k : KeepU n₀ B C) : KeepU n₀ A C := ⟨h.1.trans k.1, fun i c t fz ht hi => k.2 i c t fz ht (h.2 i c t fz ht hi)⟩
theorem keepU_b {n₀ : Nat} {w : World} (hn : n₀ ≤ w.heap.size) (W : World) (l : Nat) (o o' : Obj) (hl : w.heap.size ≤ l) (h : W.heap[l]? = some o) (h1 : o.isCells = false) (h2 : o.isWalk = false) : KeepU n₀ W (W.putObj l o') :=
  ⟨belowK_b hn W l o o' hl h h1 h2, fun k c t fz _ hk => by
    by_cases e : k = l
    · subst e; rw [hk] at h; cases h; cases h1
    · rw [World.putObj_heap_other e]; exact hk⟩
/-- The bytes from above, so many. -/
def downTo : Nat → List (Fin 256)
  | 0 => []
  | j + 1 => downTo j ++ [⟨255 - j, by omega⟩]
theorem downTo_len : ∀ j, (downTo j).length = j
  | 0 => rfl
  | j + 1 => by show (downTo j ++ [_]).length = _; rw [List.length_append, downTo_len j]; rfl
set_option linter.unusedSimpArgs false in
set_option maxHeartbeats 4000000 in
theorem back1_in (n : Nat) (hn : 1 ≤ n) (l Bs b n₀ : Nat) (f : Nat → Nat) (J Jx : List (Fin 256) → World → Prop)
    (hY : ∀ pre (x : Fin 256) W, J pre W → pre.length < 256 → YieldAt Fence.wide (n - 1) Try.prog l #[.int .i64 (x.val : Nat), .int .u8 (f x.val : Nat)] W fun e W' =>
      (e = .returned (.bool true) ∧ J (pre ++ [x]) W' ∧ KeepU n₀ W W') ∨ (e = .returned (.bool false) ∧ Jx (pre ++ [x]) W'))
    (W : World) (hs : UBlk W b f) (hb : Boxed W Bs 28 (.slice (some ⟨b, 0, none⟩) 256 256)) (h0 : J [] W) :
    CallsIn Fence.wide n Try.prog 40 #[.func (.yield l) #[] #[], .pointer (some ⟨Bs, 0, none⟩)] W fun e W' => (∃ v, e = .returned v) ∧
      ((J (downTo 256) W') ∨ (∃ pre, Jx pre W')) := by
  have HY := Lib.hid hY
  have HJ0 := Lib.hid h0
  have HS0 := Lib.hid hs
  have HB0 := Lib.hid hb
  have cb := hb.cell
  clear hY h0 hs hb
  refine callsIn_of_wp Try.func40 rfl trivial ?_ rfl
  simp only [Try.ntmps40, List.size_toArray, List.length_cons, List.length_nil, Nat.reduceAdd, Nat.reduceSub, Array.replicate_succ, Array.replicate_zero, List.push_toArray, List.append_toArray, List.nil_append, List.cons_append]
  gi_wp2
  clear cb
  gi_loopw [3] (fun z wr => ∃ (j : Nat), z = .int .i64 (255 - (j : Int)) ∧ j ≤ 256 ∧ Hid (UBlk wr b f) ∧ Hid (Boxed wr Bs 28 (.slice (some ⟨b, 0, none⟩) 256 256)) ∧ Hid (J (downTo j) wr)) (fun z _ => (intOf z + 1).toNat)
  case atStart => exact ⟨0, rfl, Nat.zero_le _, HS0, HB0, HJ0⟩
  case round =>
    clear HS0 HB0 HJ0
    obtain ⟨j, rfl, hj, HS, HB, HJ⟩ := hrel
    by_cases hlt : j < 256
    · obtain ⟨i, hi⟩ : ∃ i, 255 - j = i := ⟨_, rfl⟩
      have hij : (255 : Int) - j = (i : Nat) := by omega
      have hi256 : i < 256 := by omega
      have hil : (i : Int) < 256 := by omega
      have hd : decide ((i : Int) ≥ 0) = true := decide_eq_true (by omega)
      have hd2 : decide ((0 : Int) ≤ i) = true := decide_eq_true (by omega)
      have cb := HB.out.cell
      have c0 := HS.out.cell hi256
      obtain ⟨fn, tmps, assign, body, hy, hR⟩ := HY.out (downTo j) ⟨i, hi256⟩ wr HJ.out (by rw [downTo_len]; exact hlt)
      have HRR := Lib.hid hR
      have HDN := Lib.hid (show downTo (j + 1) = downTo j ++ [⟨i, hi256⟩] from by subst hi; rfl)
      have HNX := Lib.hid (show (i : Int) - 1 = 255 - ((j + 1 : Nat) : Int) by omega)
      clear hR
      rw [hij]
      simp only at hy
      gi_wp2
      refine HRR.out.mono ?_
      clear HRR hy
      rintro er W3 (⟨rfl, hJ5, hk5⟩ | ⟨rfl, hJx5⟩)
      · have HS5 := Lib.hid (hk5.row HS.out)
        have HB5 := Lib.hid (hk5.box HB.out)
        have HJ5 := Lib.hid hJ5
        clear hk5 hJ5 HS HB HJ cb c0
        gi_wp2
        go_roundw
        case rel => exact ⟨j + 1, by rw [HNX.out], by omega, HS5, HB5, by rw [HDN.out]; exact HJ5⟩
        case measure => first | (simp [intOf]; done) | (simp [intOf]; omega)
      · gi_wp2
        refine bodyPost_ret (results_none rfl _ _ _) rfl ?_
        exact ⟨⟨_, rfl⟩, .inr ⟨_, hJx5⟩⟩
    · obtain rfl : j = 256 := by omega
      have hd : decide ((255 : Int) - ((256 : Nat) : Int) ≥ 0) = false := by decide
      gi_wp2
      go_end0
      exact ⟨⟨_, rfl⟩, .inl HJ.out⟩
theorem back_stops (n : Nat) (hn : 1 ≤ n) (Bs b n₀ : Nat) (f : Nat → Nat) (w : World) (hs : UBlk w b f) (hb : Boxed w Bs 28 (.slice (some ⟨b, 0, none⟩) 256 256)) :
    SeqStopsK Fence.wide n Try.prog 40 #[.pointer (some ⟨Bs, 0, none⟩)] (fun x : Fin 256 => #[.int .i64 (x.val : Nat), .int .u8 (f x.val : Nat)]) (KeepU n₀) (fun ys => ys = downTo 256) (fun _ => True) 256 w := fun l J Jx W hW hA _ hY h0 => by
  refine (back1_in n hn l Bs b n₀ f J Jx hY W (hs.below hW) ((hW.block Bs (lt_of_block hb)).trans hb) h0).mono ?_
  rintro e W' ⟨h1, h2⟩
  refine ⟨h1, ?_⟩
  rcases h2 with h2 | ⟨pre, h⟩
  · exact .inl ⟨_, rfl, h2⟩
  · exact .inr ⟨pre, trivial, h⟩
end Go.Proofs.Ytiikmpgadmmjeaa
