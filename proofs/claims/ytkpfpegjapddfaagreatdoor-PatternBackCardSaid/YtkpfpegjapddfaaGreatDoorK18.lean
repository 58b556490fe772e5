/- Texts that a proof rests on: Contracts of pattern's parser: nodes. | Contract of pattern's parser: parts with separators between. | Contract of pattern's parser: an item. | Contract of pattern's parser: items one behind the other. | Contract of pattern's parser: an atom. | Contract of pattern's parser: an atom. | Contract of pattern's parser: a pattern. | Contract of pattern's parser: a whole text. | How great a pattern is that was read. -/
import Derived.Test.YtkpfpegjapddfaaGreatDoorK16
import Derived.Test.YtkpfpegjapddfaaGreatDoorK17
import Derived.Test.YtkpfpegjapddfaaGreatDoorK05
import Derived.Test.YtkpfpegjapddfaaGreatDoorK09
import Derived.Maps.AppendAt
import Derived.Test.YtkpfpegjapddfaaGreatDoorK19
set_option maxRecDepth 20000
namespace Go.Proofs.YtkpfpegjapddfaaGreatDoor
open Go.RowKit

set_option maxHeartbeats 2000000 in
theorem over_any (op : Int) (p : Pat) (ks : Value) (w : World) (lo : Nat) (hlo : lo ≤ w.heap.size) (hk : KidsN w lo p.kids ks) : Calls Tryz.prog 116 #[.int .i64 op, (.agg #[.int .i64 p.op, .int .u64 (wd p.set 0), .int .u64 (wd p.set 1), .int .u64 (wd p.set 2), .int .u64 (wd p.set 3), .int .i64 p.lo, .int .i64 p.hi, ks])] w fun e w' => ∃ js, e = .returned (.agg #[.int .i64 (Pat.mk op 0 0 0 [p]).op, .int .u64 (wd (Pat.mk op 0 0 0 [p]).set 0), .int .u64 (wd (Pat.mk op 0 0 0 [p]).set 1), .int .u64 (wd (Pat.mk op 0 0 0 [p]).set 2), .int .u64 (wd (Pat.mk op 0 0 0 [p]).set 3), .int .i64 (Pat.mk op 0 0 0 [p]).lo, .int .i64 (Pat.mk op 0 0 0 [p]).hi, js]) ∧ KidsN w' lo [p] js ∧ Below w.heap.size w w' := by
  obtain ⟨a, c, rfl⟩ := hk.kids.len
  go_enter Tryz.func116, Tryz.ntmps116
  go_wp2
  refine bodyPost_ret (v := (.agg #[.int .i64 (Pat.mk op 0 0 0 [p]).op, .int .u64 (wd (Pat.mk op 0 0 0 [p]).set 0), .int .u64 (wd (Pat.mk op 0 0 0 [p]).set 1), .int .u64 (wd (Pat.mk op 0 0 0 [p]).set 2), .int .u64 (wd (Pat.mk op 0 0 0 [p]).set 3), .int .i64 (Pat.mk op 0 0 0 [p]).lo, .int .i64 (Pat.mk op 0 0 0 [p]).hi, .slice (some ⟨w.heap.size + 1 + 1, 0, none⟩) 1 1])) (by simp [results, Tryz.results116, go_sem, Pat.op, Pat.set, Pat.lo, Pat.hi, wd_none]) rfl ⟨_, rfl, ?_, ?_⟩
  · exact Kids.oneM (hk.below (below2 _ _ _)) (by simp) (by omega) (by simp)
  · exact below3 _ _ _ _
set_option maxHeartbeats 2000000 in
theorem over_anyM (op : Int) (p : Pat) (a : Option Addr) (c : Nat) (w : World) (lo : Nat) (x : Option Nat) (hlo : lo ≤ w.heap.size) (hx : ∀ b, x = some b → b < w.heap.size) (hk : Kids (mask w lo x) p.kids (.slice a p.kids.length c)) : Calls Tryz.prog 116 #[.int .i64 op, (.agg #[.int .i64 p.op, .int .u64 (wd p.set 0), .int .u64 (wd p.set 1), .int .u64 (wd p.set 2), .int .u64 (wd p.set 3), .int .i64 p.lo, .int .i64 p.hi, .slice a p.kids.length c])] w fun e w' => ∃ b, e = .returned (.agg #[.int .i64 (Pat.mk op 0 0 0 [p]).op, .int .u64 (wd (Pat.mk op 0 0 0 [p]).set 0), .int .u64 (wd (Pat.mk op 0 0 0 [p]).set 1), .int .u64 (wd (Pat.mk op 0 0 0 [p]).set 2), .int .u64 (wd (Pat.mk op 0 0 0 [p]).set 3), .int .i64 (Pat.mk op 0 0 0 [p]).lo, .int .i64 (Pat.mk op 0 0 0 [p]).hi, .slice (some ⟨b, 0, none⟩) 1 1]) ∧ Kids (mask w' lo x) [p] (.slice (some ⟨b, 0, none⟩) 1 1) ∧ Below w.heap.size w w' := by
  go_enter Tryz.func116, Tryz.ntmps116
  go_wp2
  refine bodyPost_ret (v := (.agg #[.int .i64 (Pat.mk op 0 0 0 [p]).op, .int .u64 (wd (Pat.mk op 0 0 0 [p]).set 0), .int .u64 (wd (Pat.mk op 0 0 0 [p]).set 1), .int .u64 (wd (Pat.mk op 0 0 0 [p]).set 2), .int .u64 (wd (Pat.mk op 0 0 0 [p]).set 3), .int .i64 (Pat.mk op 0 0 0 [p]).lo, .int .i64 (Pat.mk op 0 0 0 [p]).hi, .slice (some ⟨w.heap.size + 1 + 1, 0, none⟩) 1 1])) (by simp [results, Tryz.results116, go_sem, Pat.op, Pat.set, Pat.lo, Pat.hi, wd_none]) rfl ⟨_, rfl, ?_, ?_⟩
  · exact Kids.oneM (hk.masked_below (below2 _ _ _)) (by simp) (by omega) (fun e => by have := hx _ e.symm; omega)
  · exact below3 _ _ _ _
set_option maxHeartbeats 2000000 in
theorem joined_one (op : Int) (p : Pat) (a : Option Addr) (n c : Nat) (w : World) (g cap : Nat) (hc : ∀ j, j < 8 → w.cell? ⟨g, j, none⟩ = [.int .i64 p.op, .int .u64 (wd p.set 0), .int .u64 (wd p.set 1), .int .u64 (wd p.set 2), .int .u64 (wd p.set 3), .int .i64 p.lo, .int .i64 p.hi, .slice a n c][j]?) : Calls Tryz.prog 98 #[.int .i64 op, .slice (some ⟨g, 0, none⟩) 1 cap] w fun e w' => e = .returned (.agg #[.int .i64 p.op, .int .u64 (wd p.set 0), .int .u64 (wd p.set 1), .int .u64 (wd p.set 2), .int .u64 (wd p.set 3), .int .i64 p.lo, .int .i64 p.hi, .slice a n c]) ∧ Below w.heap.size w w' := by
  have c0 := hc 0 (by omega)
  have c1 := hc 1 (by omega)
  have c2 := hc 2 (by omega)
  have c3 := hc 3 (by omega)
  have c4 := hc 4 (by omega)
  have c5 := hc 5 (by omega)
  have c6 := hc 6 (by omega)
  have c7 := hc 7 (by omega)
  clear hc
  simp at c0 c1 c2 c3 c4 c5 c6 c7
  have hgl : g < w.heap.size := cell_lt (a := ⟨g, 0, none⟩) c0
  go_enter Tryz.func98, Tryz.ntmps98
  go_wp2
  refine bodyPost_ret (v := (.agg #[.int .i64 p.op, .int .u64 (wd p.set 0), .int .u64 (wd p.set 1), .int .u64 (wd p.set 2), .int .u64 (wd p.set 3), .int .i64 p.lo, .int .i64 p.hi, .slice a n c])) (by simp [results, Tryz.results98, go_sem]) rfl ⟨rfl, ?_⟩
  exact (Below.refl _ _).alloc (Nat.le_refl _) _
set_option maxHeartbeats 2000000 in
theorem joined_many (op : Int) (a : Option Addr) (n cap : Nat) (hn : n ≠ 1) (w : World) (kids : List Pat) : Calls Tryz.prog 98 #[.int .i64 op, .slice a n cap] w fun e w' => e = .returned (.agg #[.int .i64 (Pat.mk op 0 0 0 kids).op, .int .u64 (wd (Pat.mk op 0 0 0 kids).set 0), .int .u64 (wd (Pat.mk op 0 0 0 kids).set 1), .int .u64 (wd (Pat.mk op 0 0 0 kids).set 2), .int .u64 (wd (Pat.mk op 0 0 0 kids).set 3), .int .i64 (Pat.mk op 0 0 0 kids).lo, .int .i64 (Pat.mk op 0 0 0 kids).hi, .slice a n cap]) ∧ Below w.heap.size w w' := by
  have n1 : ((n : Int) == 1) = false := by rw [beq_eq_false_iff_ne]; omega
  go_enter Tryz.func98, Tryz.ntmps98
  go_wp2
  refine bodyPost_ret (v := (.agg #[.int .i64 (Pat.mk op 0 0 0 kids).op, .int .u64 (wd (Pat.mk op 0 0 0 kids).set 0), .int .u64 (wd (Pat.mk op 0 0 0 kids).set 1), .int .u64 (wd (Pat.mk op 0 0 0 kids).set 2), .int .u64 (wd (Pat.mk op 0 0 0 kids).set 3), .int .i64 (Pat.mk op 0 0 0 kids).lo, .int .i64 (Pat.mk op 0 0 0 kids).hi, .slice a n cap])) (by simp [results, Tryz.results98, go_sem, Pat.op, Pat.set, Pat.lo, Pat.hi, wd_none]) rfl ⟨rfl, ?_⟩
  exact (Below.refl _ _).alloc (Nat.le_refl _) _
end Go.Proofs.YtkpfpegjapddfaaGreatDoor
set_option maxRecDepth 20000
namespace Go.Proofs.YtkpfpegjapddfaaGreatDoor
open Go.RowKit

/-- One alone is that itself. -/
def joinP (op : Int) : List Pat → Pat
  | [p] => p
  | l => Pat.mk op 0 0 0 l
/-- More parts, each behind a separator. -/
def rowLoop (part : List UInt8 → Except Nat (Pat × Nat)) (sep : Nat) : Nat → List UInt8 → Except Nat (List Pat × Nat)
  | 0, _ => .ok ([], 0)
  | f + 1, l => if seesB l sep = true then match part (l.drop 1) with
      | .error d => .error (d + 1)
      | .ok (p, n) => match rowLoop part sep f (l.drop (n + 1)) with
        | .error d => .error (n + 1 + d)
        | .ok (ps, k) => .ok (p :: ps, n + 1 + k)
    else .ok ([], 0)
def rowR (part : List UInt8 → Except Nat (Pat × Nat)) (op : Int) (sep : Nat) (l : List UInt8) : Except Nat (Pat × Nat) := match part l with
  | .error d => .error d
  | .ok (p, n) => match rowLoop part sep (l.length + 1) (l.drop n) with
    | .error d => .error (n + d)
    | .ok (ps, k) => .ok (joinP op (p :: ps), n + k)
def comb (ps : List Pat) (d : Nat) : Except Nat (List Pat × Nat) → Except Nat (List Pat × Nat)
  | .error e => .error (d + e)
  | .ok (qs, k) => .ok (ps ++ qs, d + k)
/-- What reading a pattern leaves. -/
def ResP (r : Except Nat (Pat × Nat)) (s : ByteArray) (i o : Nat) (m : Value) (bp : Nat) (w : World) (e : Ending) (w' : World) : Prop := match r with
  | .ok (p, n) => ∃ a c, e = .returned (.agg #[.int .i64 p.op, .int .u64 (wd p.set 0), .int .u64 (wd p.set 1), .int .u64 (wd p.set 2), .int .u64 (wd p.set 3), .int .i64 p.lo, .int .i64 p.hi, .slice a p.kids.length c]) ∧ KidsN w' w.heap.size p.kids (.slice a p.kids.length c) ∧ PS w w' bp s (i + n) o m
  | .error d => e = .panicked (probV (i + d)) ∧ w.grownBy w' (some bp)
/-- Where the parser may go on. -/
def PX (w : World) (bp : Nat) (s : ByteArray) (i o g : Nat) : Prop := PB w bp s i o (.map (some g)) ∧ Ops w g ∧ Lay w ∧ i ≤ s.size
theorem PX.next {w w' : World} {bp : Nat} {s : ByteArray} {i j o o' g : Nat} (h : PX w bp s i o g) (hg : w.grownBy w' (some bp)) (hp : PB w' bp s j o' (.map (some g))) (hgb : g ≠ bp) (hlo : Lo bp) (hj : j ≤ s.size) : PX w' bp s j o' g :=
  ⟨hp, h.2.1.grown hg hgb, h.2.2.1.grown hg hlo, hj⟩
def z8 : Array Value := #[.int .i64 0, .int .u64 0, .int .u64 0, .int .u64 0, .int .u64 0, .int .i64 0, .int .i64 0, .slice none 0 0]
theorem NRow.keepP {w w' : World} {base bp : Nat} {v : Value} {L : List (Pat × Value)} (h : NRow w base v L) (hg : w.grownBy w' (some bp)) (hb : bp < base) : NRow w' base v L :=
  ⟨h.1.kept hg (.inr (own_not h.1 hb)), fun x hx => (h.2 x hx).keep fun c h1 h2 h3 => ⟨hg.block c h3 (by simp; omega), h1, h2⟩⟩
theorem nrow_start {w1 : World} {p : Pat} {ks : Value} {lo : Nat} (hk : KidsN w1 lo p.kids ks) (hl : lo ≤ w1.heap.size) : NRow (w1.alloc (.cells #[.int .i64 p.op, .int .u64 (wd p.set 0), .int .u64 (wd p.set 1), .int .u64 (wd p.set 2), .int .u64 (wd p.set 3), .int .i64 p.lo, .int .i64 p.hi, ks] 28)) lo (.slice (some ⟨w1.heap.size, 0, none⟩) 1 1) [(p, ks)] := by
  refine ⟨World.ownsRow_lit w1 #[.int .i64 p.op, .int .u64 (wd p.set 0), .int .u64 (wd p.set 1), .int .u64 (wd p.set 2), .int .u64 (wd p.set 3), .int .i64 p.lo, .int .i64 p.hi, ks] 1 hl (by unfold maxLen; omega) rfl, fun x hx => ?_⟩
  obtain rfl := List.mem_singleton.1 hx
  exact Kids.keep hk fun c h1 _ h3 => ⟨((Below.refl _ w1).alloc (Nat.le_refl _) _).block c h3, h1, by simp [Value.ownBlock]; omega⟩
theorem grow_own {w wr w' : World} {bp : Nat} {x : Option Nat} (h : w.grownBy wr (some bp)) (hg : wr.grownBy w' x) (hx : ∀ b, x = some b → w.heap.size ≤ b) : w.grownBy w' (some bp) :=
  ⟨hg.os.trans h.os, hg.tape.trans h.tape, hg.output.trans h.output, Nat.le_trans h.size hg.size, fun k hk hne => (hg.block k (Nat.lt_of_lt_of_le hk h.size) (fun e => by have := hx k e.symm; omega)).trans (h.block k hk hne)⟩
theorem set8_go (w' : World) (b : Nat) (u0 u1 u2 u3 u4 u5 u6 u7 : Value) : w'.grownBy ((((((((w'.setCell ⟨b, 0, none⟩ u0).setCell ⟨b, 1, none⟩ u1).setCell ⟨b, 2, none⟩ u2).setCell ⟨b, 3, none⟩ u3).setCell ⟨b, 4, none⟩ u4).setCell ⟨b, 5, none⟩ u5).setCell ⟨b, 6, none⟩ u6).setCell ⟨b, 7, none⟩ u7) (some b) :=
  (((((((go_set w' b 0 u0).trans (go_set _ b 1 u1)).trans (go_set _ b 2 u2)).trans (go_set _ b 3 u3)).trans (go_set _ b 4 u4)).trans (go_set _ b 5 u5)).trans (go_set _ b 6 u6)).trans (go_set _ b 7 u7)
theorem PS.result8 {w w' : World} {bp b : Nat} {s : ByteArray} {i o : Nat} {m u0 u1 u2 u3 u4 u5 u6 u7 : Value} (hl : w.heap.size ≤ b) (hb : bp < w.heap.size) (hg : w.grownBy w' (some bp)) (hp : PB w' bp s i o m) : PS w ((((((((w'.setCell ⟨b, 0, none⟩ u0).setCell ⟨b, 1, none⟩ u1).setCell ⟨b, 2, none⟩ u2).setCell ⟨b, 3, none⟩ u3).setCell ⟨b, 4, none⟩ u4).setCell ⟨b, 5, none⟩ u5).setCell ⟨b, 6, none⟩ u6).setCell ⟨b, 7, none⟩ u7) bp s i o m := by
  have gg := set8_go w' b u0 u1 u2 u3 u4 u5 u6 u7
  exact ⟨grow_own hg gg (fun c e => by simp at e; omega), (gg.block bp hp.lt (by simp; omega)).trans hp⟩
theorem Box.keep {w w' : World} {b bp : Nat} {c : Array Value} (h : Box w b c) (hg : w.grownBy w' (some bp)) (hne : b ≠ bp) : Box w' b c := (hg.block b h.lt (by simpa using hne)).trans h
theorem rowLoop_stop {part : List UInt8 → Except Nat (Pat × Nat)} {sep f : Nat} {l : List UInt8} (h : seesB l sep = false) : rowLoop part sep (f + 1) l = .ok ([], 0) := by
  show (if seesB l sep = true then _ else _) = _
  rw [if_neg (by rw [h]; decide)]
theorem rowLoop_bad {part : List UInt8 → Except Nat (Pat × Nat)} {sep f d : Nat} {l : List UInt8} (h : seesB l sep = true) (hp : part (l.drop 1) = .error d) : rowLoop part sep (f + 1) l = .error (d + 1) := by
  show (if seesB l sep = true then (match part (l.drop 1) with | .error d => _ | .ok (p, n) => _) else _) = _
  rw [if_pos h, hp]
theorem rowLoop_go {part : List UInt8 → Except Nat (Pat × Nat)} {sep f n : Nat} {p : Pat} {l : List UInt8} (ps : List Pat) (d : Nat) (h : seesB l sep = true) (hp : part (l.drop 1) = .ok (p, n)) : comb ps d (rowLoop part sep (f + 1) l) = comb (ps ++ [p]) (d + (n + 1)) (rowLoop part sep f (l.drop (n + 1))) := by
  have h1 : rowLoop part sep (f + 1) l = match rowLoop part sep f (l.drop (n + 1)) with
        | .error d => .error (n + 1 + d)
        | .ok (ps, k) => .ok (p :: ps, n + 1 + k) := by
    show (if seesB l sep = true then (match part (l.drop 1) with | .error d => _ | .ok (p, n) => _) else _) = _
    rw [if_pos h, hp]
  rw [h1]
  rcases rowLoop part sep f (l.drop (n + 1)) with e | ⟨qs, k⟩
  · simp [comb, Nat.add_assoc]
  · simp [comb, Nat.add_assoc]
/-- What a round of row hands on. -/
def RowRel (part : List UInt8 → Except Nat (Pat × Nat)) (sep : Nat) (R0 : Except Nat (List Pat × Nat)) (w : World) (bp : Nat) (s : ByteArray) (i o g : Nat) (v : Value) (wr : World) : Prop :=
  ∃ (j f : Nat) (L : List (Pat × Value)) (a : Option Addr) (cap : Nat), v = .slice a L.length cap ∧ i ≤ j ∧ j ≤ s.size ∧ s.size - j < f ∧ 0 < L.length ∧ L.length ≤ j - i + 1 ∧ comb (L.map Prod.fst) (j - i) (rowLoop part sep f (rest s j)) = R0 ∧ NRow wr (w.heap.size + 1) (.slice a L.length cap) L ∧ PX wr bp s j o g ∧ Box wr w.heap.size z8 ∧ w.grownBy wr (some bp)
def jr (op : Int) : Except Nat (List Pat × Nat) → Except Nat (Pat × Nat)
  | .error d => .error d
  | .ok (ps, k) => .ok (joinP op ps, k)
theorem rowR_of {part : List UInt8 → Except Nat (Pat × Nat)} {op : Int} {sep n : Nat} {l : List UInt8} {p : Pat} {r : Except Nat (List Pat × Nat)} (hq : part l = .ok (p, n)) (hR : comb [p] n (rowLoop part sep (l.length + 1) (l.drop n)) = r) : rowR part op sep l = jr op r := by
  unfold rowR
  rw [hq, ← hR]
  show (match rowLoop part sep (l.length + 1) (l.drop n) with
    | .error d => Except.error (n + d)
    | .ok (ps, k) => .ok (joinP op (p :: ps), n + k)) = _
  rcases rowLoop part sep (l.length + 1) (l.drop n) with e | ⟨qs, k⟩ <;> rfl
theorem row_one {w : World} {base cap : Nat} {av : Option Addr} {q : Pat} {kv : Value} (h : NRow w base (.slice av 1 cap) [(q, kv)]) : ∃ b a c, av = some ⟨b, 0, none⟩ ∧ kv = .slice a q.kids.length c ∧ (∀ j, j < 8 → w.cell? ⟨b, j, none⟩ = [.int .i64 q.op, .int .u64 (wd q.set 0), .int .u64 (wd q.set 1), .int .u64 (wd q.set 2), .int .u64 (wd q.set 3), .int .i64 q.lo, .int .i64 q.hi, kv][j]?) ∧ KidsN w base q.kids kv := by
  obtain ⟨ho, hk⟩ := h
  have hk0 := hk (q, kv) (by simp)
  obtain ⟨a, c, hkv⟩ := hk0.unmask.len
  have hkn : KidsN w base q.kids kv := Kids.keep hk0 fun c h1 _ _ => ⟨rfl, h1, by simp⟩
  rcases ho.2 with ⟨_, h0⟩ | ⟨b, cap', cur, hv, hrest⟩
  · simp at h0
  · simp at hv
    obtain ⟨rfl, rfl⟩ := hv
    refine ⟨b, a, c, rfl, hkv, fun j hj => ?_, hkn⟩
    exact ho.cellAt j (by simpa using hj)
theorem row_step {part : List UInt8 → Except Nat (Pat × Nat)} {sep : Nat} {R0 : Except Nat (List Pat × Nat)} {w wr w3 w4 w7 : World} {bp : Nat} {s : ByteArray} {i j o g f n2 : Nat} {v' : Value} {L : List (Pat × Value)} {a a4 : Option Addr} {cap c4 : Nat} {p2 : Pat}
    (h : PX w bp s i o g) (hbp : bp < w.heap.size) (hgb : g ≠ bp) (hlo : Lo bp) (hij : i ≤ j) (hn2 : j + 1 + n2 ≤ s.size) (hf : s.size - j < f + 1) (hLj : L.length ≤ j - i + 1)
    (he : comb (L.map Prod.fst ++ [p2]) (j - i + (n2 + 1)) (rowLoop part sep f (rest s (j + (n2 + 1)))) = R0) (hbx : Box wr w.heap.size z8) (hg : w.grownBy wr (some bp)) (h3 : wr.grownBy w3 (some bp)) (hx3 : PX w3 bp s (j + 1) o g) (hN3 : NRow w3 (w.heap.size + 1) (.slice a L.length cap) L)
    (hk4 : KidsN w4 w3.heap.size p2.kids (.slice a4 p2.kids.length c4)) (h4 : PS w3 w4 bp s (j + 1 + n2) o (.map (some g))) (hN4 : NRow w4 (w.heap.size + 1) (.slice a L.length cap) L)
    (hown : w7.ownsRow (w.heap.size + 1) 28 8 v' (L.length + 1) (flatN L ++ [.int .i64 p2.op, .int .u64 (wd p2.set 0), .int .u64 (wd p2.set 1), .int .u64 (wd p2.set 2), .int .u64 (wd p2.set 3), .int .i64 p2.lo, .int .i64 p2.hi, .slice a4 p2.kids.length c4])) (hgrow : (w4.alloc (.cells #[.int .i64 p2.op, .int .u64 (wd p2.set 0), .int .u64 (wd p2.set 1), .int .u64 (wd p2.set 2), .int .u64 (wd p2.set 3), .int .i64 p2.lo, .int .i64 p2.hi, .slice a4 p2.kids.length c4] 28)).grownBy w7 (Value.slice a L.length cap).ownBlock)
    (hat : v'.ownBlock = (Value.slice a L.length cap).ownBlock ∨ v'.ownBlock = some (w4.alloc (.cells #[.int .i64 p2.op, .int .u64 (wd p2.set 0), .int .u64 (wd p2.set 1), .int .u64 (wd p2.set 2), .int .u64 (wd p2.set 3), .int .i64 p2.lo, .int .i64 p2.hi, .slice a4 p2.kids.length c4] 28)).heap.size) (hpos : posOf bp wr = j) :
    RowRel part sep R0 w bp s i o g v' w7 ∧ s.size - posOf bp w7 < s.size - posOf bp wr := by
  have hal : Below w4.heap.size w4 (w4.alloc (.cells #[.int .i64 p2.op, .int .u64 (wd p2.set 0), .int .u64 (wd p2.set 1), .int .u64 (wd p2.set 2), .int .u64 (wd p2.set 3), .int .i64 p2.lo, .int .i64 p2.hi, .slice a4 p2.kids.length c4] 28)) := (Below.refl _ _).alloc (Nat.le_refl _) _
  have hs2 := hg.size
  have hs3 := h3.size
  have hs4 := h4.1.size
  have hown3 := hN3.1.lt
  have hp : Kids (mask (w4.alloc (.cells #[.int .i64 p2.op, .int .u64 (wd p2.set 0), .int .u64 (wd p2.set 1), .int .u64 (wd p2.set 2), .int .u64 (wd p2.set 3), .int .i64 p2.lo, .int .i64 p2.hi, .slice a4 p2.kids.length c4] 28)) (w.heap.size + 1) (Value.slice a L.length cap).ownBlock) p2.kids (.slice a4 p2.kids.length c4) :=
    (KidsN.masked hk4 (by have := hx3.1.lt; have : w.heap.size < w3.heap.size := Nat.lt_of_lt_of_le (Nat.lt_of_lt_of_le (hbx.lt) hs3) (Nat.le_refl _); omega) fun b e => (hown3 b e).2).masked_below hal
  have hN7 := (hN4.below hal).snoc hown hgrow hat hp
  have hne : ∀ k, k < w.heap.size + 1 → (Value.slice a L.length cap).ownBlock ≠ some k := fun k hk e => by have := (hown3 k e).1; omega
  have hp7 : PB w7 bp s (j + 1 + n2) o (.map (some g)) := (hgrow.block bp (h4.2.below hal).lt (fun e => hne bp (by omega) e.symm)).trans (h4.2.below hal)
  have hg4 := (hg.trans h3).trans h4.1
  have hg7 : w.grownBy w7 (some bp) := grow_own (hg4.trans (grown_of_below hal)) hgrow fun b e => by have := (hown3 b e).1; omega
  have hb4 := ((hbx.keep h3 (by omega)).keep h4.1 (by omega)).below hal
  have hb7 : Box w7 w.heap.size z8 := (hgrow.block _ hb4.lt (fun e => hne _ (by omega) e.symm)).trans hb4
  have hlen : (L ++ [(p2, Value.slice a4 p2.kids.length c4)]).length = L.length + 1 := by simp
  obtain ⟨a', cap', hv⟩ := hN7.form
  refine ⟨⟨j + 1 + n2, f, _, a', cap', hv, by omega, hn2, by omega, by simp, by simp; omega, ?_, by rw [← hv]; exact hN7, h.next hg7 hp7 hgb hlo hn2, hb7, hg7⟩, by rw [hp7.pos, hpos]; omega⟩
  rw [List.map_append, show j + 1 + n2 - i = j - i + (n2 + 1) from by omega, show j + 1 + n2 = j + (n2 + 1) from by omega]
  exact he
theorem KidsN.keepP {w w' : World} {lo bp : Nat} {l : List Pat} {ks : Value} (h : KidsN w lo l ks) (hg : w.grownBy w' (some bp)) (hb : bp < lo) : KidsN w' lo l ks := Kids.keep h fun c h1 _ h3 => ⟨hg.block c h3 (by simp; omega), h1, by simp⟩
set_option maxHeartbeats 4000000 in
theorem row_conjunction (s : ByteArray) (bp g : Nat) (hs : s.size ≤ 20000) (hgb : g ≠ bp) (hlo : Lo bp) (part : List UInt8 → Except Nat (Pat × Nat)) (o : Nat)
    (hle : ∀ l p n, part l = .ok (p, n) → n ≤ l.length)
    (hpart : ∀ i w, PX w bp s i o g → Calls Tryz.prog 91 #[.pointer (some ⟨bp, 0, none⟩)] w fun e w' => ResP (part (rest s i)) s i o (.map (some g)) bp w e w')
    (op : Int) (sep i : Nat) (w : World) (h : PX w bp s i o g) :
    Calls Tryz.prog 90 #[.pointer (some ⟨bp, 0, none⟩), .int .i64 op, .int .u8 sep, .func (.func 91) #[.pointer (some ⟨bp, 0, none⟩)] #[]] w fun e w' => ResP (rowR part op sep (rest s i)) s i o (.map (some g)) bp w e w' := by
  have hbp := h.1.lt
  have hb0 : Below w.heap.size w (w.alloc (.cells #[.int .i64 0, .int .u64 0, .int .u64 0, .int .u64 0, .int .u64 0, .int .i64 0, .int .i64 0, .slice none 0 0] 28)) := (Below.refl _ _).alloc (Nat.le_refl _) _
  have hg0 : w.grownBy (w.alloc (.cells #[.int .i64 0, .int .u64 0, .int .u64 0, .int .u64 0, .int .u64 0, .int .i64 0, .int .i64 0, .slice none 0 0] 28)) (some bp) := grown_of_below hb0
  have h0 : PX (w.alloc (.cells #[.int .i64 0, .int .u64 0, .int .u64 0, .int .u64 0, .int .u64 0, .int .i64 0, .int .i64 0, .slice none 0 0] 28)) bp s i o g := h.next hg0 (h.1.alloc (.cells #[.int .i64 0, .int .u64 0, .int .u64 0, .int .u64 0, .int .u64 0, .int .i64 0, .int .i64 0, .slice none 0 0] 28)) hgb hlo h.2.2.2
  have hne : w.heap.size ≠ bp := by omega
  have ht0 : Box (w.alloc (.cells #[.int .i64 0, .int .u64 0, .int .u64 0, .int .u64 0, .int .u64 0, .int .i64 0, .int .i64 0, .slice none 0 0] 28)) w.heap.size #[.int .i64 0, .int .u64 0, .int .u64 0, .int .u64 0, .int .u64 0, .int .i64 0, .int .i64 0, .slice none 0 0] := Box.new w _ rfl
  rcases hq : part (rest s i) with d | ⟨p, n⟩
  · have hr : rowR part op sep (rest s i) = .error d := by simp [rowR, hq]
    rw [hr]
    go_enter Tryz.func90, Tryz.ntmps90
    go_wp2_with (first | (go_at_call 91; refine (hpart i _ h0).mono ?_; rw [hq]; rintro e w1 ⟨rfl, h1⟩))
    exact ⟨rfl, rfl, hg0.trans h1⟩
  · obtain ⟨r, hr0⟩ : ∃ r, rowR part op sep (rest s i) = r := ⟨_, rfl⟩
    rw [hr0]
    go_enter Tryz.func90, Tryz.ntmps90
    go_wp2_with (first | (go_at_call 91; refine (hpart i _ h0).mono ?_; rw [hq]; rintro e w1 ⟨a1, c1, rfl, hk1, h1⟩))
    obtain ⟨R0, hR⟩ : ∃ R0, comb [p] n (rowLoop part sep ((rest s i).length + 1) ((rest s i).drop n)) = R0 := ⟨_, rfl⟩
    have hrR := rowR_of (op := op) hq hR
    have hnl := hle _ _ _ hq
    have hin := rest_le hnl h.2.2.2
    rw [← rest_drop, rest_length] at hR
    have hx1 : PX w1 bp s (i + n) o g := h0.next h1.1 h1.2 hgb hlo hin
    have hg1 := hg0.trans h1.1
    have hbx1 := ht0.keep h1.1 hne
    have hl1 : w.heap.size + 1 ≤ w1.heap.size := by have := h1.1.size; simpa using this
    have hal : Below w1.heap.size w1 (w1.alloc (.cells #[.int .i64 p.op, .int .u64 (wd p.set 0), .int .u64 (wd p.set 1), .int .u64 (wd p.set 2), .int .u64 (wd p.set 3), .int .i64 p.lo, .int .i64 p.hi, .slice a1 p.kids.length c1] 28)) := (Below.refl _ _).alloc (Nat.le_refl _) _
    have hN : NRow (w1.alloc (.cells #[.int .i64 p.op, .int .u64 (wd p.set 0), .int .u64 (wd p.set 1), .int .u64 (wd p.set 2), .int .u64 (wd p.set 3), .int .i64 p.lo, .int .i64 p.hi, .slice a1 p.kids.length c1] 28)) (w.heap.size + 1) (.slice (some ⟨w1.heap.size, 0, none⟩) 1 1) [(p, .slice a1 p.kids.length c1)] := nrow_start (by have := hk1; simpa using this) hl1
    have hx2 := hx1.next (grown_of_below hal) (hx1.1.alloc _) hgb hlo hin
    have hbx2 := hbx1.below hal
    have hg2 := hg1.trans (grown_of_below (x := some bp) hal)
    clear h1 hk1 hx1 hg1 hbx1 hal hl1 h0 ht0 hg0 hb0
    generalize w1.alloc (.cells #[.int .i64 p.op, .int .u64 (wd p.set 0), .int .u64 (wd p.set 1), .int .u64 (wd p.set 2), .int .u64 (wd p.set 3), .int .i64 p.lo, .int .i64 p.hi, .slice a1 p.kids.length c1] 28) = w2 at *
    generalize w1.heap.size = b1 at *
    go_loopw [9] (fun v wr => RowRel part sep R0 w bp s i o g v wr) (fun _ wr => s.size - posOf bp wr)
    case atStart => exact ⟨i + n, s.size - i + 1, [(p, .slice a1 p.kids.length c1)], _, _, rfl, by omega, hin, by omega, by simp, by simp, by rw [show i + n - i = n from by omega]; exact hR, hN, hx2, hbx2, hg2⟩
    case round =>
      clear hN hx2 hbx2 hg2
      obtain ⟨j, f, L, a, cap, rfl, hij, hjs, hf, hL0, hLj, he, hN, hx, hbx, hg⟩ := hrel
      obtain ⟨f, rfl⟩ : ∃ f', f = f' + 1 := ⟨f - 1, by omega⟩
      obtain ⟨c, hc⟩ : ∃ c, seesB (rest s j) sep = c := ⟨_, rfl⟩
      cases c
      · rw [rowLoop_stop hc] at he
        obtain rfl : r = .ok (joinP op (L.map Prod.fst), j - i) := by
          rw [← hr0, hrR, ← he]
          simp [comb, jr]
        rcases L with _ | ⟨⟨q, kv⟩, _ | ⟨y, L⟩⟩
        · simp at hL0
        · obtain ⟨b, aq, cq, rfl, rfl, hcl, hkq⟩ := row_one hN
          have hbb : w.heap.size + 1 ≤ b ∧ b < wr.heap.size := hN.1.lt b rfl
          go_wp2_with (first | (go_at_call 97; refine (skip_any s sep j o _ bp _ hx.1 hjs (by omega) false hc).mono ?_; simp only [cond_false]; rintro e w3 ⟨rfl, h3⟩; have hcl3 := (fun k hk => (World.cell?_of_block (h3.1.block b hbb.2 (by simp; omega))).trans (hcl k hk))) | (go_at_call 98; refine (joined_one op q aq q.kids.length cq w3 b cap hcl3).mono ?_; rintro e w5 ⟨rfl, hb5⟩; have hx5 := (hbx.keep h3.1 hne).below hb5; obtain ⟨x0, x1, x2, x3, x4, x5, x6, x7⟩ := Box.cells hx5; obtain ⟨y0, y1, y2, y3, y4, y5, y6, y7⟩ := Box.frees hx5))
          exact bodyPost_ret (v := (.agg #[.int .i64 q.op, .int .u64 (wd q.set 0), .int .u64 (wd q.set 1), .int .u64 (wd q.set 2), .int .u64 (wd q.set 3), .int .i64 q.lo, .int .i64 q.hi, .slice aq q.kids.length cq])) (by simp [results, Tryz.results90, go_sem, *]) rfl ⟨aq, cq, rfl, (((hkq.keepP h3.1 (by omega)).below hb5).set8 (by omega) _ _ _ _ _ _ _ _).mono (by omega), PS.result8 (Nat.le_refl _) hbp ((hg.trans h3.1).trans (grown_of_below hb5)) (by have := h3.2.below hb5; rwa [show j = i + (j - i) from by omega] at this)⟩
        · have hlen : (((q, kv) :: y :: L).length : Nat) ≠ 1 := by simp
          go_wp2_with (first | (go_at_call 97; refine (skip_any s sep j o _ bp _ hx.1 hjs (by omega) false hc).mono ?_; simp only [cond_false]; rintro e w3 ⟨rfl, h3⟩; have hN3 := hN.keepP h3.1 (by omega)) | (go_at_call 98; refine (joined_many op a _ cap hlen w3 (((q, kv) :: y :: L).map Prod.fst)).mono ?_; rintro e w5 ⟨rfl, hb5⟩; have hx5 := (hbx.keep h3.1 hne).below hb5; obtain ⟨x0, x1, x2, x3, x4, x5, x6, x7⟩ := Box.cells hx5; obtain ⟨y0, y1, y2, y3, y4, y5, y6, y7⟩ := Box.frees hx5))
          exact bodyPost_ret (v := (.agg #[.int .i64 (Pat.mk op 0 0 0 (((q, kv) :: y :: L).map Prod.fst)).op, .int .u64 (wd (Pat.mk op 0 0 0 (((q, kv) :: y :: L).map Prod.fst)).set 0), .int .u64 (wd (Pat.mk op 0 0 0 (((q, kv) :: y :: L).map Prod.fst)).set 1), .int .u64 (wd (Pat.mk op 0 0 0 (((q, kv) :: y :: L).map Prod.fst)).set 2), .int .u64 (wd (Pat.mk op 0 0 0 (((q, kv) :: y :: L).map Prod.fst)).set 3), .int .i64 (Pat.mk op 0 0 0 (((q, kv) :: y :: L).map Prod.fst)).lo, .int .i64 (Pat.mk op 0 0 0 (((q, kv) :: y :: L).map Prod.fst)).hi, .slice a (((q, kv) :: y :: L).map Prod.fst).length cap])) (by simp [results, Tryz.results90, go_sem, Pat.op, Pat.set, Pat.lo, Pat.hi, *]) rfl ⟨a, cap, rfl, by
            have hk := hN3.kidsN.below hb5
            rw [show ((q, kv) :: y :: L).length = (((q, kv) :: y :: L).map Prod.fst).length from by simp] at hk
            exact (hk.set8 (by omega) _ _ _ _ _ _ _ _).mono (by omega), PS.result8 (Nat.le_refl _) hbp ((hg.trans h3.1).trans (grown_of_below hb5)) (by have := h3.2.below hb5; rwa [show j = i + (j - i) from by omega] at this)⟩
      · have hj1 := seesB_lt hc
        rcases hq2 : part (rest s (j + 1)) with d | ⟨p2, n2⟩
        · have hq3 := hq2
          rw [rest_drop] at hq3
          rw [rowLoop_bad hc hq3] at he
          obtain rfl : r = .error (j - i + (d + 1)) := by
            rw [← hr0, hrR, ← he]
            rfl
          go_wp2_with (first | (go_at_call 97; refine (skip_any s sep j o _ bp _ hx.1 hjs (by omega) true hc).mono ?_; simp only [cond_true]; rintro e w3 ⟨rfl, h3⟩; have hx3 : PX w3 bp s (j + 1) o g := hx.next h3.1 h3.2 hgb hlo hj1; have hN3 := hN.keepP h3.1 (by omega)) | (go_at_call 91; refine (hpart (j + 1) _ hx3).mono ?_; rw [hq2]; rintro e w4 ⟨rfl, h4⟩))
          exact ⟨rfl, by rw [show j + 1 + d = i + (j - i + (d + 1)) from by omega], (hg.trans h3.1).trans h4⟩
        · have hq3 := hq2
          rw [rest_drop] at hq3
          rw [rowLoop_go _ _ hc hq3, ← rest_drop] at he
          have hn2 := rest_le (hle _ _ _ hq2) hj1
          obtain ⟨i0, hi, hy0, hy1, hy2⟩ := info_parts infoNode
          go_wp2_with (first | (go_at_call 97; refine (skip_any s sep j o _ bp _ hx.1 hjs (by omega) true hc).mono ?_; simp only [cond_true]; rintro e w3 ⟨rfl, h3⟩; have hx3 : PX w3 bp s (j + 1) o g := hx.next h3.1 h3.2 hgb hlo hj1; have hN3 := hN.keepP h3.1 (by omega)) | (go_at_call 91; refine (hpart (j + 1) _ hx3).mono ?_; rw [hq2]; rintro e w4 ⟨a4, c4, rfl, hk4, h4⟩; have hN4 := hN3.keepP h4.1 (by omega); have hs4 := h4.1.size; have hs3 := h3.1.size; have hs2 := hg.size) | (at_builtin; refine wpList_append_own_at _ rfl _ _ 26 rfl (w.heap.size + 1) 28 i0 (.agg #[.int .i64 0, .int .u64 0, .int .u64 0, .int .u64 0, .int .u64 0, .int .i64 0, .int .i64 0, .slice none 0 0]) 8 80 Tryz.underlying26 hi hy0 hy1 hy2 rfl (by decide) (.slice a L.length cap) _ _ rfl (hN4.1.alloc _) ⟨w4.heap.size, 0, none⟩ 1 1 [.int .i64 p2.op, .int .u64 (wd p2.set 0), .int .u64 (wd p2.set 1), .int .u64 (wd p2.set 2), .int .u64 (wd p2.set 3), .int .i64 p2.lo, .int .i64 p2.hi, .slice a4 p2.kids.length c4] rfl rfl (cell_eight_new _ _ _ _) (by simp [Value.oneCell']) (by unfold maxLen; omega) (by omega) (by simp; omega) ?_; intro v' w7 hown' hgrow _ hat))
          exact row_step h hbp hgb hlo hij hn2 hf hLj he hbx hg h3.1 hx3 hN3 hk4 h4 hN4 hown' hgrow hat hx.1.pos
set_option maxHeartbeats 4000000 in
theorem row_sequence (s : ByteArray) (bp g : Nat) (hs : s.size ≤ 20000) (hgb : g ≠ bp) (hlo : Lo bp) (part : List UInt8 → Except Nat (Pat × Nat)) (o : Nat)
    (hle : ∀ l p n, part l = .ok (p, n) → n ≤ l.length)
    (hpart : ∀ i w, PX w bp s i o g → Calls Tryz.prog 99 #[.pointer (some ⟨bp, 0, none⟩)] w fun e w' => ResP (part (rest s i)) s i o (.map (some g)) bp w e w')
    (op : Int) (sep i : Nat) (w : World) (h : PX w bp s i o g) :
    Calls Tryz.prog 90 #[.pointer (some ⟨bp, 0, none⟩), .int .i64 op, .int .u8 sep, .func (.func 99) #[.pointer (some ⟨bp, 0, none⟩)] #[]] w fun e w' => ResP (rowR part op sep (rest s i)) s i o (.map (some g)) bp w e w' := by
  have hbp := h.1.lt
  have hb0 : Below w.heap.size w (w.alloc (.cells #[.int .i64 0, .int .u64 0, .int .u64 0, .int .u64 0, .int .u64 0, .int .i64 0, .int .i64 0, .slice none 0 0] 28)) := (Below.refl _ _).alloc (Nat.le_refl _) _
  have hg0 : w.grownBy (w.alloc (.cells #[.int .i64 0, .int .u64 0, .int .u64 0, .int .u64 0, .int .u64 0, .int .i64 0, .int .i64 0, .slice none 0 0] 28)) (some bp) := grown_of_below hb0
  have h0 : PX (w.alloc (.cells #[.int .i64 0, .int .u64 0, .int .u64 0, .int .u64 0, .int .u64 0, .int .i64 0, .int .i64 0, .slice none 0 0] 28)) bp s i o g := h.next hg0 (h.1.alloc (.cells #[.int .i64 0, .int .u64 0, .int .u64 0, .int .u64 0, .int .u64 0, .int .i64 0, .int .i64 0, .slice none 0 0] 28)) hgb hlo h.2.2.2
  have hne : w.heap.size ≠ bp := by omega
  have ht0 : Box (w.alloc (.cells #[.int .i64 0, .int .u64 0, .int .u64 0, .int .u64 0, .int .u64 0, .int .i64 0, .int .i64 0, .slice none 0 0] 28)) w.heap.size #[.int .i64 0, .int .u64 0, .int .u64 0, .int .u64 0, .int .u64 0, .int .i64 0, .int .i64 0, .slice none 0 0] := Box.new w _ rfl
  rcases hq : part (rest s i) with d | ⟨p, n⟩
  · have hr : rowR part op sep (rest s i) = .error d := by simp [rowR, hq]
    rw [hr]
    go_enter Tryz.func90, Tryz.ntmps90
    go_wp2_with (first | (go_at_call 99; refine (hpart i _ h0).mono ?_; rw [hq]; rintro e w1 ⟨rfl, h1⟩))
    exact ⟨rfl, rfl, hg0.trans h1⟩
  · obtain ⟨r, hr0⟩ : ∃ r, rowR part op sep (rest s i) = r := ⟨_, rfl⟩
    rw [hr0]
    go_enter Tryz.func90, Tryz.ntmps90
    go_wp2_with (first | (go_at_call 99; refine (hpart i _ h0).mono ?_; rw [hq]; rintro e w1 ⟨a1, c1, rfl, hk1, h1⟩))
    obtain ⟨R0, hR⟩ : ∃ R0, comb [p] n (rowLoop part sep ((rest s i).length + 1) ((rest s i).drop n)) = R0 := ⟨_, rfl⟩
    have hrR := rowR_of (op := op) hq hR
    have hnl := hle _ _ _ hq
    have hin := rest_le hnl h.2.2.2
    rw [← rest_drop, rest_length] at hR
    have hx1 : PX w1 bp s (i + n) o g := h0.next h1.1 h1.2 hgb hlo hin
    have hg1 := hg0.trans h1.1
    have hbx1 := ht0.keep h1.1 hne
    have hl1 : w.heap.size + 1 ≤ w1.heap.size := by have := h1.1.size; simpa using this
    have hal : Below w1.heap.size w1 (w1.alloc (.cells #[.int .i64 p.op, .int .u64 (wd p.set 0), .int .u64 (wd p.set 1), .int .u64 (wd p.set 2), .int .u64 (wd p.set 3), .int .i64 p.lo, .int .i64 p.hi, .slice a1 p.kids.length c1] 28)) := (Below.refl _ _).alloc (Nat.le_refl _) _
    have hN : NRow (w1.alloc (.cells #[.int .i64 p.op, .int .u64 (wd p.set 0), .int .u64 (wd p.set 1), .int .u64 (wd p.set 2), .int .u64 (wd p.set 3), .int .i64 p.lo, .int .i64 p.hi, .slice a1 p.kids.length c1] 28)) (w.heap.size + 1) (.slice (some ⟨w1.heap.size, 0, none⟩) 1 1) [(p, .slice a1 p.kids.length c1)] := nrow_start (by have := hk1; simpa using this) hl1
    have hx2 := hx1.next (grown_of_below hal) (hx1.1.alloc _) hgb hlo hin
    have hbx2 := hbx1.below hal
    have hg2 := hg1.trans (grown_of_below (x := some bp) hal)
    clear h1 hk1 hx1 hg1 hbx1 hal hl1 h0 ht0 hg0 hb0
    generalize w1.alloc (.cells #[.int .i64 p.op, .int .u64 (wd p.set 0), .int .u64 (wd p.set 1), .int .u64 (wd p.set 2), .int .u64 (wd p.set 3), .int .i64 p.lo, .int .i64 p.hi, .slice a1 p.kids.length c1] 28) = w2 at *
    generalize w1.heap.size = b1 at *
    go_loopw [9] (fun v wr => RowRel part sep R0 w bp s i o g v wr) (fun _ wr => s.size - posOf bp wr)
    case atStart => exact ⟨i + n, s.size - i + 1, [(p, .slice a1 p.kids.length c1)], _, _, rfl, by omega, hin, by omega, by simp, by simp, by rw [show i + n - i = n from by omega]; exact hR, hN, hx2, hbx2, hg2⟩
    case round =>
      clear hN hx2 hbx2 hg2
      obtain ⟨j, f, L, a, cap, rfl, hij, hjs, hf, hL0, hLj, he, hN, hx, hbx, hg⟩ := hrel
      obtain ⟨f, rfl⟩ : ∃ f', f = f' + 1 := ⟨f - 1, by omega⟩
      obtain ⟨c, hc⟩ : ∃ c, seesB (rest s j) sep = c := ⟨_, rfl⟩
      cases c
      · rw [rowLoop_stop hc] at he
        obtain rfl : r = .ok (joinP op (L.map Prod.fst), j - i) := by
          rw [← hr0, hrR, ← he]
          simp [comb, jr]
        rcases L with _ | ⟨⟨q, kv⟩, _ | ⟨y, L⟩⟩
        · simp at hL0
        · obtain ⟨b, aq, cq, rfl, rfl, hcl, hkq⟩ := row_one hN
          have hbb : w.heap.size + 1 ≤ b ∧ b < wr.heap.size := hN.1.lt b rfl
          go_wp2_with (first | (go_at_call 97; refine (skip_any s sep j o _ bp _ hx.1 hjs (by omega) false hc).mono ?_; simp only [cond_false]; rintro e w3 ⟨rfl, h3⟩; have hcl3 := (fun k hk => (World.cell?_of_block (h3.1.block b hbb.2 (by simp; omega))).trans (hcl k hk))) | (go_at_call 98; refine (joined_one op q aq q.kids.length cq w3 b cap hcl3).mono ?_; rintro e w5 ⟨rfl, hb5⟩; have hx5 := (hbx.keep h3.1 hne).below hb5; obtain ⟨x0, x1, x2, x3, x4, x5, x6, x7⟩ := Box.cells hx5; obtain ⟨y0, y1, y2, y3, y4, y5, y6, y7⟩ := Box.frees hx5))
          exact bodyPost_ret (v := (.agg #[.int .i64 q.op, .int .u64 (wd q.set 0), .int .u64 (wd q.set 1), .int .u64 (wd q.set 2), .int .u64 (wd q.set 3), .int .i64 q.lo, .int .i64 q.hi, .slice aq q.kids.length cq])) (by simp [results, Tryz.results90, go_sem, *]) rfl ⟨aq, cq, rfl, (((hkq.keepP h3.1 (by omega)).below hb5).set8 (by omega) _ _ _ _ _ _ _ _).mono (by omega), PS.result8 (Nat.le_refl _) hbp ((hg.trans h3.1).trans (grown_of_below hb5)) (by have := h3.2.below hb5; rwa [show j = i + (j - i) from by omega] at this)⟩
        · have hlen : (((q, kv) :: y :: L).length : Nat) ≠ 1 := by simp
          go_wp2_with (first | (go_at_call 97; refine (skip_any s sep j o _ bp _ hx.1 hjs (by omega) false hc).mono ?_; simp only [cond_false]; rintro e w3 ⟨rfl, h3⟩; have hN3 := hN.keepP h3.1 (by omega)) | (go_at_call 98; refine (joined_many op a _ cap hlen w3 (((q, kv) :: y :: L).map Prod.fst)).mono ?_; rintro e w5 ⟨rfl, hb5⟩; have hx5 := (hbx.keep h3.1 hne).below hb5; obtain ⟨x0, x1, x2, x3, x4, x5, x6, x7⟩ := Box.cells hx5; obtain ⟨y0, y1, y2, y3, y4, y5, y6, y7⟩ := Box.frees hx5))
          exact bodyPost_ret (v := (.agg #[.int .i64 (Pat.mk op 0 0 0 (((q, kv) :: y :: L).map Prod.fst)).op, .int .u64 (wd (Pat.mk op 0 0 0 (((q, kv) :: y :: L).map Prod.fst)).set 0), .int .u64 (wd (Pat.mk op 0 0 0 (((q, kv) :: y :: L).map Prod.fst)).set 1), .int .u64 (wd (Pat.mk op 0 0 0 (((q, kv) :: y :: L).map Prod.fst)).set 2), .int .u64 (wd (Pat.mk op 0 0 0 (((q, kv) :: y :: L).map Prod.fst)).set 3), .int .i64 (Pat.mk op 0 0 0 (((q, kv) :: y :: L).map Prod.fst)).lo, .int .i64 (Pat.mk op 0 0 0 (((q, kv) :: y :: L).map Prod.fst)).hi, .slice a (((q, kv) :: y :: L).map Prod.fst).length cap])) (by simp [results, Tryz.results90, go_sem, Pat.op, Pat.set, Pat.lo, Pat.hi, *]) rfl ⟨a, cap, rfl, by
            have hk := hN3.kidsN.below hb5
            rw [show ((q, kv) :: y :: L).length = (((q, kv) :: y :: L).map Prod.fst).length from by simp] at hk
            exact (hk.set8 (by omega) _ _ _ _ _ _ _ _).mono (by omega), PS.result8 (Nat.le_refl _) hbp ((hg.trans h3.1).trans (grown_of_below hb5)) (by have := h3.2.below hb5; rwa [show j = i + (j - i) from by omega] at this)⟩
      · have hj1 := seesB_lt hc
        rcases hq2 : part (rest s (j + 1)) with d | ⟨p2, n2⟩
        · have hq3 := hq2
          rw [rest_drop] at hq3
          rw [rowLoop_bad hc hq3] at he
          obtain rfl : r = .error (j - i + (d + 1)) := by
            rw [← hr0, hrR, ← he]
            rfl
          go_wp2_with (first | (go_at_call 97; refine (skip_any s sep j o _ bp _ hx.1 hjs (by omega) true hc).mono ?_; simp only [cond_true]; rintro e w3 ⟨rfl, h3⟩; have hx3 : PX w3 bp s (j + 1) o g := hx.next h3.1 h3.2 hgb hlo hj1; have hN3 := hN.keepP h3.1 (by omega)) | (go_at_call 99; refine (hpart (j + 1) _ hx3).mono ?_; rw [hq2]; rintro e w4 ⟨rfl, h4⟩))
          exact ⟨rfl, by rw [show j + 1 + d = i + (j - i + (d + 1)) from by omega], (hg.trans h3.1).trans h4⟩
        · have hq3 := hq2
          rw [rest_drop] at hq3
          rw [rowLoop_go _ _ hc hq3, ← rest_drop] at he
          have hn2 := rest_le (hle _ _ _ hq2) hj1
          obtain ⟨i0, hi, hy0, hy1, hy2⟩ := info_parts infoNode
          go_wp2_with (first | (go_at_call 97; refine (skip_any s sep j o _ bp _ hx.1 hjs (by omega) true hc).mono ?_; simp only [cond_true]; rintro e w3 ⟨rfl, h3⟩; have hx3 : PX w3 bp s (j + 1) o g := hx.next h3.1 h3.2 hgb hlo hj1; have hN3 := hN.keepP h3.1 (by omega)) | (go_at_call 99; refine (hpart (j + 1) _ hx3).mono ?_; rw [hq2]; rintro e w4 ⟨a4, c4, rfl, hk4, h4⟩; have hN4 := hN3.keepP h4.1 (by omega); have hs4 := h4.1.size; have hs3 := h3.1.size; have hs2 := hg.size) | (at_builtin; refine wpList_append_own_at _ rfl _ _ 26 rfl (w.heap.size + 1) 28 i0 (.agg #[.int .i64 0, .int .u64 0, .int .u64 0, .int .u64 0, .int .u64 0, .int .i64 0, .int .i64 0, .slice none 0 0]) 8 80 Tryz.underlying26 hi hy0 hy1 hy2 rfl (by decide) (.slice a L.length cap) _ _ rfl (hN4.1.alloc _) ⟨w4.heap.size, 0, none⟩ 1 1 [.int .i64 p2.op, .int .u64 (wd p2.set 0), .int .u64 (wd p2.set 1), .int .u64 (wd p2.set 2), .int .u64 (wd p2.set 3), .int .i64 p2.lo, .int .i64 p2.hi, .slice a4 p2.kids.length c4] rfl rfl (cell_eight_new _ _ _ _) (by simp [Value.oneCell']) (by unfold maxLen; omega) (by omega) (by simp; omega) ?_; intro v' w7 hown' hgrow _ hat))
          exact row_step h hbp hgb hlo hij hn2 hf hLj he hbx hg h3.1 hx3 hN3 hk4 h4 hN4 hown' hgrow hat hx.1.pos
end Go.Proofs.YtkpfpegjapddfaaGreatDoor
set_option maxRecDepth 20000
namespace Go.Proofs.YtkpfpegjapddfaaGreatDoor
open Go.RowKit

def tilC (c : UInt8) : Bool := decide (c.toNat = 126)
/-- How many Nots come next. -/
def notsN (l : List UInt8) : Nat := (l.takeWhile tilC).length
def notP : Nat → Pat → Pat
  | 0, p => p
  | k + 1, p => Pat.mk 5 0 0 0 [notP k p]
/-- Endings behind a pattern. -/
def repLoop : Nat → List UInt8 → Pat → Except Nat (Pat × Nat)
  | 0, _, p => .ok (p, 0)
  | f + 1, l, p => match repR l with
    | .error d => .error d
    | .ok (none, _) => .ok (p, 0)
    | .ok (some (a, b), n) => shiftR n (repLoop f (l.drop n) (Pat.mk 3 0 a b [p]))
def mapR (g : Pat → Pat) : Except Nat (Pat × Nat) → Except Nat (Pat × Nat)
  | .error d => .error d
  | .ok (p, n) => .ok (g p, n)
def itemR (atom : List UInt8 → Except Nat (Pat × Nat)) (l : List UInt8) : Except Nat (Pat × Nat) := match atom (l.drop (notsN l)) with
  | .error d => .error (notsN l + d)
  | .ok (p, n) => mapR (notP (notsN l)) (shiftR (notsN l + n) (repLoop (l.length + 1) (l.drop (notsN l + n)) p))
theorem notsN_yes {l : List UInt8} {c : UInt8} {r : List UInt8} (h : l = c :: r) (hc : c.toNat = 126) : notsN l = notsN r + 1 := by
  subst h
  simp [notsN, tilC, hc]
theorem notsN_no {l : List UInt8} (h : seesB l 126 = false) : notsN l = 0 := by
  cases l with
  | nil => rfl
  | cons c r =>
    simp [seesB] at h
    simp [notsN, tilC, h]
theorem sees_cons {s : ByteArray} {i b : Nat} (h : seesB (rest s i) b = true) : ∃ c, rest s i = c :: rest s (i + 1) ∧ c.toNat = b := by
  have hl := seesB_lt h
  have hr := rest_cons hl
  refine ⟨s[i], hr, ?_⟩
  rw [hr] at h
  simpa [seesB] using h
theorem repLoop_go {f n : Nat} {l : List UInt8} {p : Pat} {x y : Int} (h : repR l = .ok (some (x, y), n)) : repLoop (f + 1) l p = shiftR n (repLoop f (l.drop n) (Pat.mk 3 0 x y [p])) := by
  show (match repR l with
    | .error d => Except.error d
    | .ok (none, _) => .ok (p, 0)
    | .ok (some (a, b), n) => shiftR n (repLoop f (l.drop n) (Pat.mk 3 0 a b [p]))) = _
  rw [h]
theorem repLoop_bad {f d : Nat} {l : List UInt8} {p : Pat} (h : repR l = .error d) : repLoop (f + 1) l p = .error d := by
  show (match repR l with
    | .error d => Except.error d
    | .ok (none, _) => .ok (p, 0)
    | .ok (some (a, b), n) => shiftR n (repLoop f (l.drop n) (Pat.mk 3 0 a b [p]))) = _
  rw [h]
theorem repLoop_end {f n : Nat} {l : List UInt8} {p : Pat} (h : repR l = .ok (none, n)) : repLoop (f + 1) l p = .ok (p, 0) := by
  show (match repR l with
    | .error d => Except.error d
    | .ok (none, _) => .ok (p, 0)
    | .ok (some (a, b), n) => shiftR n (repLoop f (l.drop n) (Pat.mk 3 0 a b [p]))) = _
  rw [h]
theorem TB.put {w : World} {b : Nat} {x y : Value} (h : TB w b x y) (u v : Value) : TB ((w.setCell ⟨b, 0, none⟩ u).setCell ⟨b, 1, none⟩ v) b u v := by
  have h1 := setCell_block (i := 0) h u
  have h2 := setCell_block (i := 1) h1 v
  unfold TB
  simpa using h2
def ox (p : Option (Int × Int)) : Int := (p.getD (0, 0)).1
def oy (p : Option (Int × Int)) : Int := (p.getD (0, 0)).2
theorem repV_eq (p : Option (Int × Int)) : repV p = .tuple #[.agg #[.int .i64 (ox p), .int .i64 (oy p)], .bool p.isSome] := by
  cases p <;> rfl
theorem sees_drop {l : List UInt8} {k b : Nat} (h : seesB (l.drop k) b = true) : k + 1 ≤ l.length := by
  have := sees_len h
  rw [List.length_drop] at this
  omega
theorem countR_le {l : List UInt8} {p : Int × Int} {n : Nat} (h : countR l = .ok (p, n)) : n ≤ l.length := by
  unfold countR at h
  split at h
  · simp at h
  · rename_i a k hn
    split at h
    · split at h
      · simp at h
      · split at h
        · simp at h
        · split at h
          · rename_i hx
            have := sees_drop hx
            simp at h
            omega
          · simp at h
    · split at h
      · rename_i hx
        have := sees_drop hx
        simp at h
        omega
      · simp at h
theorem repR_le {l : List UInt8} {p : Option (Int × Int)} {n : Nat} (h : repR l = .ok (p, n)) : n ≤ l.length ∧ (p.isSome = true → 0 < n) := by
  cases l with
  | nil =>
    simp [repR] at h
    obtain ⟨rfl, rfl⟩ := h
    simp
  | cons c r =>
    simp only [repR] at h
    split at h
    · split at h
      · rename_i hc
        have := countR_le hc
        simp at h
        obtain ⟨rfl, rfl⟩ := h
        simp
        omega
      · simp at h
    · split at h
      · simp at h
        obtain ⟨rfl, rfl⟩ := h
        simp
      · simp at h
        obtain ⟨rfl, rfl⟩ := h
        simp
theorem repR_none {l : List UInt8} {n : Nat} (h : repR l = .ok (none, n)) : n = 0 := by
  cases l with
  | nil =>
    simp [repR] at h
    exact h.symm
  | cons c r =>
    simp only [repR] at h
    split at h
    · split at h
      · simp at h
      · simp at h
    · split at h
      · simp at h
      · simp at h
        exact h.symm
/-- What a round of endings hands on. -/
def EndRel (R1 : Except Nat (Pat × Nat)) (w : World) (bp : Nat) (s : ByteArray) (i o g b4 : Nat) (tv okv : Value) (wr : World) : Prop :=
  ∃ (j n f : Nat) (opt : Option (Int × Int)) (q : Pat) (a : Option Addr) (c bt : Nat), tv = .pointer (some ⟨bt, 0, none⟩) ∧ okv = .bool opt.isSome ∧ repR (rest s j) = .ok (opt, n) ∧ i ≤ j ∧ j + n ≤ s.size ∧ s.size - j < f + 1 ∧ shiftR (j - i) (repLoop (f + 1) (rest s j) q) = R1 ∧
    TB wr bt (.int .i64 (ox opt)) (.int .i64 (oy opt)) ∧ b4 < bt ∧ Box wr b4 #[.int .i64 q.op, .int .u64 (wd q.set 0), .int .u64 (wd q.set 1), .int .u64 (wd q.set 2), .int .u64 (wd q.set 3), .int .i64 q.lo, .int .i64 q.hi, .slice a q.kids.length c] ∧ Kids (mask wr (w.heap.size + 1) (some b4)) q.kids (.slice a q.kids.length c) ∧ PX wr bp s (j + n) o g ∧ Box wr w.heap.size z8 ∧ w.grownBy wr (some bp)
def okM (v : Value) : Nat := match v with
  | .bool true => 1
  | _ => 0
set_option maxHeartbeats 4000000 in
theorem item_any (s : ByteArray) (bp g : Nat) (hs : s.size ≤ 20000) (hgb : g ≠ bp) (hlo : Lo bp) (hf : Few s) (atom : List UInt8 → Except Nat (Pat × Nat)) (o : Nat)
    (hle : ∀ l p n, atom l = .ok (p, n) → n ≤ l.length)
    (hatom : ∀ i w, PX w bp s i o g → Calls Tryz.prog 114 #[.pointer (some ⟨bp, 0, none⟩)] w fun e w' => ResP (atom (rest s i)) s i o (.map (some g)) bp w e w')
    (i : Nat) (w : World) (h : PX w bp s i o g) :
    Calls Tryz.prog 107 #[.pointer (some ⟨bp, 0, none⟩)] w fun e w' => ResP (itemR atom (rest s i)) s i o (.map (some g)) bp w e w' := by
  have hbp := h.1.lt
  have hb0 : Below w.heap.size w (w.alloc (.cells #[.int .i64 0, .int .u64 0, .int .u64 0, .int .u64 0, .int .u64 0, .int .i64 0, .int .i64 0, .slice none 0 0] 28)) := (Below.refl _ _).alloc (Nat.le_refl _) _
  have hg0 : w.grownBy (w.alloc (.cells #[.int .i64 0, .int .u64 0, .int .u64 0, .int .u64 0, .int .u64 0, .int .i64 0, .int .i64 0, .slice none 0 0] 28)) (some bp) := grown_of_below hb0
  have h0 : PX (w.alloc (.cells #[.int .i64 0, .int .u64 0, .int .u64 0, .int .u64 0, .int .u64 0, .int .i64 0, .int .i64 0, .slice none 0 0] 28)) bp s i o g := h.next hg0 (h.1.alloc (.cells #[.int .i64 0, .int .u64 0, .int .u64 0, .int .u64 0, .int .u64 0, .int .i64 0, .int .i64 0, .slice none 0 0] 28)) hgb hlo h.2.2.2
  have hne : w.heap.size ≠ bp := by omega
  have ht0 : Box (w.alloc (.cells #[.int .i64 0, .int .u64 0, .int .u64 0, .int .u64 0, .int .u64 0, .int .i64 0, .int .i64 0, .slice none 0 0] 28)) w.heap.size z8 := Box.new w _ rfl
  obtain ⟨r, hr0⟩ : ∃ r, itemR atom (rest s i) = r := ⟨_, rfl⟩
  rw [hr0]
  go_enter Tryz.func107, Tryz.ntmps107
  go_wp2_with fail
  go_loopw [3] (fun v wr => ∃ k : Nat, v = .int .i64 k ∧ i + k ≤ s.size ∧ k + notsN (rest s (i + k)) = notsN (rest s i) ∧ PX wr bp s (i + k) o g ∧ Box wr w.heap.size z8 ∧ w.grownBy wr (some bp)) (fun _ wr => s.size - posOf bp wr)
  case atStart => exact ⟨0, rfl, h.2.2.2, by simp, h0, ht0, hg0⟩
  case round =>
    clear h0 ht0 hg0 hb0
    obtain ⟨k, rfl, hk, hn, hx, hbx, hg⟩ := hrel
    obtain ⟨c, hc⟩ : ∃ c, seesB (rest s (i + k)) 126 = c := ⟨_, rfl⟩
    cases c
    · rw [notsN_no hc] at hn
      rcases hq : atom (rest s (i + k)) with d | ⟨p, n⟩
      · obtain rfl : r = .error (k + d) := by
          rw [← hr0]
          unfold itemR
          rw [← hn, Nat.add_zero, ← rest_drop, hq]
        go_wp2_with (first | (go_at_call 97; refine (skip_any s 126 (i + k) o _ bp _ hx.1 hk (by omega) false hc).mono ?_; simp only [cond_false]; rintro e w3 ⟨rfl, h3⟩; have hx3 : PX w3 bp s (i + k) o g := hx.next h3.1 h3.2 hgb hlo hk; have hbx3 := hbx.keep h3.1 hne) | (go_at_call 114; refine (hatom (i + k) _ hx3).mono ?_; rw [hq]; rintro e w4 ⟨rfl, h4⟩))
        exact ⟨rfl, by rw [Nat.add_assoc], (hg.trans h3.1).trans h4⟩
      · have hkn := rest_le (hle _ _ _ hq) hk
        obtain ⟨R1, hR1⟩ : ∃ R1, shiftR (k + n) (repLoop (s.size - i + 1) (rest s (i + (k + n))) p) = R1 := ⟨_, rfl⟩
        have hrR : r = mapR (notP k) R1 := by
          rw [← hr0, ← hR1]
          unfold itemR
          rw [← hn, Nat.add_zero, ← rest_drop, hq]
          simp only
          rw [← rest_drop, rest_length]
        rcases hp : repR (rest s (i + k + n)) with d | ⟨opt, n2⟩
        · obtain rfl : r = .error (k + n + d) := by
            rw [hrR, ← hR1, ← Nat.add_assoc, show s.size - i + 1 = (s.size - i) + 1 from rfl]
            unfold repLoop
            rw [hp]
            rfl
          go_wp2_with (first | (go_at_call 97; refine (skip_any s 126 (i + k) o _ bp _ hx.1 hk (by omega) false hc).mono ?_; simp only [cond_false]; rintro e w3 ⟨rfl, h3⟩; have hx3 : PX w3 bp s (i + k) o g := hx.next h3.1 h3.2 hgb hlo hk; have hbx3 := hbx.keep h3.1 hne) | (go_at_call 114; refine (hatom (i + k) _ hx3).mono ?_; rw [hq]; rintro e w4 ⟨a4, c4, rfl, hk4, h4⟩; have hx4 : PX w4 bp s (i + k + n) o g := hx3.next h4.1 h4.2 hgb hlo hkn; have hbx4 := hbx3.keep h4.1 hne; have hal : Below w4.heap.size w4 (w4.alloc (.cells #[.int .i64 p.op, .int .u64 (wd p.set 0), .int .u64 (wd p.set 1), .int .u64 (wd p.set 2), .int .u64 (wd p.set 3), .int .i64 p.lo, .int .i64 p.hi, .slice a4 p.kids.length c4] 28)) := (Below.refl _ _).alloc (Nat.le_refl _) _; have hx5 := hx4.next (grown_of_below hal) (hx4.1.alloc (.cells #[.int .i64 p.op, .int .u64 (wd p.set 0), .int .u64 (wd p.set 1), .int .u64 (wd p.set 2), .int .u64 (wd p.set 3), .int .i64 p.lo, .int .i64 p.hi, .slice a4 p.kids.length c4] 28)) hgb hlo hkn) | (go_at_call 115; refine (repetition_any s (i + k + n) o g bp _ hx5.1 hx5.2.1 hgb hkn (by omega) hx5.2.2.1 hf hlo).mono ?_; rw [hp]; rintro e w5 ⟨rfl, h5⟩))
          exact ⟨rfl, by rw [Nat.add_assoc, Nat.add_assoc, ← Nat.add_assoc k n d], ((hg.trans h3.1).trans h4.1).trans ((grown_of_below (x := some bp) hal).trans h5)⟩
        · have hn2 := rest_le (repR_le hp).1 hkn
          go_wp2_with (first | (go_at_call 97; refine (skip_any s 126 (i + k) o _ bp _ hx.1 hk (by omega) false hc).mono ?_; simp only [cond_false]; rintro e w3 ⟨rfl, h3⟩; have hx3 : PX w3 bp s (i + k) o g := hx.next h3.1 h3.2 hgb hlo hk; have hbx3 := hbx.keep h3.1 hne) | (go_at_call 114; refine (hatom (i + k) _ hx3).mono ?_; rw [hq]; rintro e w4 ⟨a4, c4, rfl, hk4, h4⟩; have hx4 : PX w4 bp s (i + k + n) o g := hx3.next h4.1 h4.2 hgb hlo hkn; have hbx4 := hbx3.keep h4.1 hne; have hal : Below w4.heap.size w4 (w4.alloc (.cells #[.int .i64 p.op, .int .u64 (wd p.set 0), .int .u64 (wd p.set 1), .int .u64 (wd p.set 2), .int .u64 (wd p.set 3), .int .i64 p.lo, .int .i64 p.hi, .slice a4 p.kids.length c4] 28)) := (Below.refl _ _).alloc (Nat.le_refl _) _; have hx5 := hx4.next (grown_of_below hal) (hx4.1.alloc (.cells #[.int .i64 p.op, .int .u64 (wd p.set 0), .int .u64 (wd p.set 1), .int .u64 (wd p.set 2), .int .u64 (wd p.set 3), .int .i64 p.lo, .int .i64 p.hi, .slice a4 p.kids.length c4] 28)) hgb hlo hkn) | (go_at_call 115; refine (repetition_any s (i + k + n) o g bp _ hx5.1 hx5.2.1 hgb hkn (by omega) hx5.2.2.1 hf hlo).mono ?_; rw [hp]; simp only [Res, repV_eq]; rintro e w5 ⟨rfl, h5⟩))
          have hl4 : w.heap.size + 1 ≤ w4.heap.size := by
            have := h4.1.size
            have := hbx4.lt
            omega
          have hwb5 : bp < w4.heap.size := hx4.1.lt
          have hg4 := (hg.trans h3.1).trans h4.1
          have hg5 := (hg4.trans (grown_of_below (x := some bp) hal)).trans h5.1
          have hb5 : Box w5 w4.heap.size #[.int .i64 p.op, .int .u64 (wd p.set 0), .int .u64 (wd p.set 1), .int .u64 (wd p.set 2), .int .u64 (wd p.set 3), .int .i64 p.lo, .int .i64 p.hi, .slice a4 p.kids.length c4] := Box.keep (Box.new w4 _ rfl) h5.1 (by omega)
          have hal5 : Below w5.heap.size w5 (w5.alloc (.cells #[.int .i64 (ox opt), .int .i64 (oy opt)] 74)) := (Below.refl _ _).alloc (Nat.le_refl _) _
          have hl5 := hb5.lt
          have hk5 : Kids (mask (w5.alloc (.cells #[.int .i64 (ox opt), .int .i64 (oy opt)] 74)) (w.heap.size + 1) (some w4.heap.size)) p.kids (.slice a4 p.kids.length c4) := by
            have hl3 : w.heap.size + 1 ≤ w3.heap.size := hbx3.lt
            refine Kids.keep hk4 fun c h1 _ hc => ⟨?_, by omega, by simp; omega⟩
            have e1 := hal.block c hc
            have e2 := h5.1.block c (Nat.lt_of_lt_of_le hc hal.size) (by have := hx3.1.lt; simp; omega)
            have e3 := hal5.block c (Nat.lt_of_lt_of_le (Nat.lt_of_lt_of_le hc hal.size) h5.1.size)
            exact e3.trans (e2.trans e1)
          have hxx5 : PX (w5.alloc (.cells #[.int .i64 (ox opt), .int .i64 (oy opt)] 74)) bp s (i + k + n + n2) o g := (hx5.next h5.1 h5.2 hgb hlo hn2).next (grown_of_below hal5) (h5.2.alloc _) hgb hlo hn2
          have hE : EndRel R1 w bp s i o g w4.heap.size (.pointer (some ⟨w5.heap.size, 0, none⟩)) (.bool opt.isSome) (w5.alloc (.cells #[.int .i64 (ox opt), .int .i64 (oy opt)] 74)) :=
            ⟨i + k + n, n2, s.size - i, opt, p, a4, c4, w5.heap.size, rfl, rfl, hp, by omega, hn2, by omega, by rw [← hR1, show i + k + n - i = k + n from by omega, Nat.add_assoc], heap_alloc_new w5 _, hl5, hb5.below hal5, hk5, hxx5, ((hbx4.below hal).keep h5.1 hne).below hal5, hg5.trans (grown_of_below hal5)⟩
          obtain ⟨w6, hw6⟩ : ∃ z, z = w5.alloc (.cells #[.int .i64 (ox opt), .int .i64 (oy opt)] 74) := ⟨_, rfl⟩
          rw [← hw6] at hE ⊢
          have hb4w : w.heap.size < w4.heap.size := by omega
          clear hk5 hxx5 hal5 hb5 hg5 hg4 hal hl5 hw6
          go_loopw [5, 6] (fun tv okv wr => EndRel R1 w bp s i o g w4.heap.size tv okv wr) (fun _ okv wr => 2 * (s.size - posOf bp wr) + okM okv)
          case atStart => exact hE
          case round =>
            clear hE
            obtain ⟨j, n5, f, opt2, q, a5, c5, bt, rfl, rfl, hrp, hij, hjn, hf2, hsh, htb, hbt, hbq, hkq, hxr, hbxr, hgr⟩ := hrel
            rcases opt2 with _ | ⟨x, y⟩
            · have hn50 := repR_none hrp
              subst hn50
              rw [Nat.add_zero] at hxr hjn
              rw [repLoop_end hrp] at hsh
              obtain rfl : r = .ok (notP k q, j - i) := by
                rw [hrR, ← hsh]
                rfl
              simp only [Option.isSome_none]
              have hlqr := hbq.lt
              go_wp2_with fail
              go_loopw [34] (fun v wr => ∃ (k2 : Nat) (a : Option Addr) (c : Nat), v = .int .i64 k2 ∧ k2 ≤ k ∧ Box wr w4.heap.size #[.int .i64 (notP k2 q).op, .int .u64 (wd (notP k2 q).set 0), .int .u64 (wd (notP k2 q).set 1), .int .u64 (wd (notP k2 q).set 2), .int .u64 (wd (notP k2 q).set 3), .int .i64 (notP k2 q).lo, .int .i64 (notP k2 q).hi, .slice a (notP k2 q).kids.length c] ∧ Kids (mask wr (w.heap.size + 1) (some w4.heap.size)) (notP k2 q).kids (.slice a (notP k2 q).kids.length c) ∧ PX wr bp s j o g ∧ Box wr w.heap.size z8 ∧ w.grownBy wr (some bp)) (fun v _ => k - (intOf v).toNat)
              case atStart => exact ⟨0, a5, c5, rfl, by omega, hbq, hkq, hxr, hbxr, hgr⟩
              case round =>
                clear hbq hkq hxr hbxr hgr htb hlqr
                obtain ⟨k2, a6, c6, rfl, hk2, hbq, hkq, hxr, hbxr, hgr⟩ := hrel
                have hgs := hgr.size
                have hlq := hbq.lt
                by_cases hkk : k2 < k
                · obtain ⟨q0, q1, q2, q3, q4, q5, q6, q7⟩ := hbq.cells
                  generalize hqq : notP k2 q = qq at *
                  go_wp2_with (first | (go_at_call 116; refine (over_anyM 5 qq a6 c6 _ (w.heap.size + 1) (some w4.heap.size) (by omega) (fun b e => by simp at e; omega) hkq).mono ?_; rintro e w7 ⟨b7, rfl, hk7, hb7⟩; obtain ⟨f0, f1, f2, f3, f4, f5, f6, f7⟩ := (hbq.below hb7).frees; obtain ⟨q0, q1, q2, q3, q4, q5, q6, q7⟩ := (hbq.below hb7).cells))
                  have h8 := (hbq.below hb7).store (.int .i64 (Pat.mk 5 (0#256) 0 0 [qq]).op) (.int .u64 (wd (Pat.mk 5 (0#256) 0 0 [qq]).set 0)) (.int .u64 (wd (Pat.mk 5 (0#256) 0 0 [qq]).set 1)) (.int .u64 (wd (Pat.mk 5 (0#256) 0 0 [qq]).set 2)) (.int .u64 (wd (Pat.mk 5 (0#256) 0 0 [qq]).set 3)) (.int .i64 (Pat.mk 5 (0#256) 0 0 [qq]).lo) (.int .i64 (Pat.mk 5 (0#256) 0 0 [qq]).hi) (.slice (some ⟨b7, 0, none⟩) 1 1)
                  have hs8 := set8_go w7 w4.heap.size (.int .i64 (Pat.mk 5 (0#256) 0 0 [qq]).op) (.int .u64 (wd (Pat.mk 5 (0#256) 0 0 [qq]).set 0)) (.int .u64 (wd (Pat.mk 5 (0#256) 0 0 [qq]).set 1)) (.int .u64 (wd (Pat.mk 5 (0#256) 0 0 [qq]).set 2)) (.int .u64 (wd (Pat.mk 5 (0#256) 0 0 [qq]).set 3)) (.int .i64 (Pat.mk 5 (0#256) 0 0 [qq]).lo) (.int .i64 (Pat.mk 5 (0#256) 0 0 [qq]).hi) (.slice (some ⟨b7, 0, none⟩) 1 1)
                  have hg8 := (grown_of_below (x := some w4.heap.size) hb7).trans hs8
                  have hgw8 := grow_own hgr hg8 (fun b e => by simp at e; omega)
                  have hp8 : PB _ bp s j o (.map (some g)) := (hg8.block bp hxr.1.lt (by simp; omega)).trans hxr.1
                  have hx8 := h.next hgw8 hp8 hgb hlo hjn
                  have hbx8 : Box _ w.heap.size z8 := (hg8.block _ hbxr.lt (by simp; omega)).trans hbxr
                  have hq1 : notP (k2 + 1) q = Pat.mk 5 (0#256) 0 0 [qq] := by rw [← hqq]; rfl
                  have hk8 := hk7.masked hs8 (.inl rfl)
                  exact ⟨⟨k2 + 1, some ⟨b7, 0, none⟩, 1, num_succ k2, by omega, by rw [hq1]; exact h8, by rw [hq1]; exact hk8, hx8, hbx8, hgw8⟩, by simp [intOf]; omega⟩
                · have hk3 : k2 = k := by omega
                  subst hk3
                  obtain ⟨q0, q1, q2, q3, q4, q5, q6, q7⟩ := hbq.cells
                  obtain ⟨x0, x1, x2, x3, x4, x5, x6, x7⟩ := Box.cells hbxr
                  obtain ⟨y0, y1, y2, y3, y4, y5, y6, y7⟩ := Box.frees hbxr
                  go_wp2
                  have hkN : KidsN wr (w.heap.size + 1) (notP k2 q).kids (.slice a6 (notP k2 q).kids.length c6) := Kids.keep hkq fun c h1 _ _ => ⟨rfl, h1, by simp⟩
                  exact bodyPost_ret (v := (.agg #[.int .i64 (notP k2 q).op, .int .u64 (wd (notP k2 q).set 0), .int .u64 (wd (notP k2 q).set 1), .int .u64 (wd (notP k2 q).set 2), .int .u64 (wd (notP k2 q).set 3), .int .i64 (notP k2 q).lo, .int .i64 (notP k2 q).hi, .slice a6 (notP k2 q).kids.length c6])) (by simp [results, Tryz.results107, go_sem, *]) rfl ⟨a6, c6, rfl, (hkN.set8 (by omega) _ _ _ _ _ _ _ _).mono (by omega), PS.result8 (Nat.le_refl _) hbp hgr (by have := hxr.1; rwa [show j = i + (j - i) from by omega] at this)⟩
            · simp only [Option.isSome_some, ox, oy, Option.getD_some] at htb ⊢
              obtain ⟨t0, t1, t2, t3⟩ := times_cells htb
              obtain ⟨q0, q1, q2, q3, q4, q5, q6, q7⟩ := hbq.cells
              obtain ⟨f0, f1, f2, f3, f4, f5, f6, f7⟩ := hbq.frees
              have hlq := hbq.lt
              have hlt := lt_of_block htb
              have hs6 := hgr.size
              go_wp2_with (first | (go_at_call 116; refine (over_anyM 3 q a5 c5 _ (w.heap.size + 1) (some w4.heap.size) (by omega) (fun b e => by simp at e; omega) hkq).mono ?_; rintro e w7 ⟨b7, rfl, hk7, hb7⟩; obtain ⟨t0, t1, t2, t3⟩ := times_cells (res_keep (bp := bp) (grown_of_below hb7) (by omega) htb); obtain ⟨q0, q1, q2, q3, q4, q5, q6, q7⟩ := (hbq.below hb7).cells; obtain ⟨f0, f1, f2, f3, f4, f5, f6, f7⟩ := (hbq.below hb7).frees))
              have h8 := (hbq.below hb7).store (.int .i64 (Pat.mk 3 (0#256) 0 0 [q]).op) (.int .u64 (wd (Pat.mk 3 (0#256) 0 0 [q]).set 0)) (.int .u64 (wd (Pat.mk 3 (0#256) 0 0 [q]).set 1)) (.int .u64 (wd (Pat.mk 3 (0#256) 0 0 [q]).set 2)) (.int .u64 (wd (Pat.mk 3 (0#256) 0 0 [q]).set 3)) (.int .i64 (Pat.mk 3 (0#256) 0 0 [q]).lo) (.int .i64 (Pat.mk 3 (0#256) 0 0 [q]).hi) (.slice (some ⟨b7, 0, none⟩) 1 1)
              have hs8 := set8_go w7 w4.heap.size (.int .i64 (Pat.mk 3 (0#256) 0 0 [q]).op) (.int .u64 (wd (Pat.mk 3 (0#256) 0 0 [q]).set 0)) (.int .u64 (wd (Pat.mk 3 (0#256) 0 0 [q]).set 1)) (.int .u64 (wd (Pat.mk 3 (0#256) 0 0 [q]).set 2)) (.int .u64 (wd (Pat.mk 3 (0#256) 0 0 [q]).set 3)) (.int .i64 (Pat.mk 3 (0#256) 0 0 [q]).lo) (.int .i64 (Pat.mk 3 (0#256) 0 0 [q]).hi) (.slice (some ⟨b7, 0, none⟩) 1 1)
              obtain ⟨w8, hw8⟩ : ∃ z, z = ((((((((w7.setCell ⟨w4.heap.size, 0, none⟩ (.int .i64 (Pat.mk 3 (0#256) 0 0 [q]).op)).setCell ⟨w4.heap.size, 1, none⟩ (.int .u64 (wd (Pat.mk 3 (0#256) 0 0 [q]).set 0))).setCell ⟨w4.heap.size, 2, none⟩ (.int .u64 (wd (Pat.mk 3 (0#256) 0 0 [q]).set 1))).setCell ⟨w4.heap.size, 3, none⟩ (.int .u64 (wd (Pat.mk 3 (0#256) 0 0 [q]).set 2))).setCell ⟨w4.heap.size, 4, none⟩ (.int .u64 (wd (Pat.mk 3 (0#256) 0 0 [q]).set 3))).setCell ⟨w4.heap.size, 5, none⟩ (.int .i64 (Pat.mk 3 (0#256) 0 0 [q]).lo)).setCell ⟨w4.heap.size, 6, none⟩ (.int .i64 (Pat.mk 3 (0#256) 0 0 [q]).hi)).setCell ⟨w4.heap.size, 7, none⟩ (.slice (some ⟨b7, 0, none⟩) 1 1)) := ⟨_, rfl⟩
              rw [← hw8] at h8 hs8 ⊢
              have hg8 : wr.grownBy w8 (some w4.heap.size) := (grown_of_below hb7).trans hs8
              have hk8 : Kids (mask w8 (w.heap.size + 1) (some w4.heap.size)) [q] (.slice (some ⟨b7, 0, none⟩) 1 1) := hk7.masked hs8 (.inl rfl)
              have ht8 : TB w8 bt (.int .i64 x) (.int .i64 y) := (hg8.block bt hlt (by simp; omega)).trans htb
              clear hw8 hs8 hk7 hb7 t0 t1 t2 t3 q0 q1 q2 q3 q4 q5 q6 q7 f0 f1 f2 f3 f4 f5 f6 f7
              obtain ⟨t0, t1, t2, t3⟩ := times_cells ht8
              obtain ⟨q0, q1, q2, q3, q4, q5, q6, q7⟩ := h8.cells
              obtain ⟨f0, f1, f2, f3, f4, f5, f6, f7⟩ := h8.frees
              have h9 : Box ((w8.setCell ⟨w4.heap.size, 5, none⟩ (.int .i64 x)).setCell ⟨w4.heap.size, 6, none⟩ (.int .i64 y)).drew w4.heap.size #[.int .i64 (Pat.mk 3 (0#256) x y [q]).op, .int .u64 (wd (Pat.mk 3 (0#256) x y [q]).set 0), .int .u64 (wd (Pat.mk 3 (0#256) x y [q]).set 1), .int .u64 (wd (Pat.mk 3 (0#256) x y [q]).set 2), .int .u64 (wd (Pat.mk 3 (0#256) x y [q]).set 3), .int .i64 (Pat.mk 3 (0#256) x y [q]).lo, .int .i64 (Pat.mk 3 (0#256) x y [q]).hi, .slice (some ⟨b7, 0, none⟩) 1 1] := ((h8.set5 (.int .i64 x)).set6 (.int .i64 y)).drew
              have hs9 : w8.grownBy ((w8.setCell ⟨w4.heap.size, 5, none⟩ (.int .i64 x)).setCell ⟨w4.heap.size, 6, none⟩ (.int .i64 y)).drew (some w4.heap.size) := ((go_set w8 w4.heap.size 5 (.int .i64 x)).trans (go_set _ w4.heap.size 6 (.int .i64 y))).trans (go_drewN _ 1 _)
              have hlq8 : w4.heap.size < w8.heap.size := h8.lt
              go_region
              obtain ⟨w9, hw9⟩ : ∃ z, z = ((w8.setCell ⟨w4.heap.size, 5, none⟩ (.int .i64 x)).setCell ⟨w4.heap.size, 6, none⟩ (.int .i64 y)).drew := ⟨_, rfl⟩
              rw [← hw9] at h9 hs9 ⊢
              have hg9 := hg8.trans hs9
              have hk9 : Kids (mask w9 (w.heap.size + 1) (some w4.heap.size)) [q] (.slice (some ⟨b7, 0, none⟩) 1 1) := hk8.masked hs9 (.inl rfl)
              have ht9 : TB w9 bt (.int .i64 x) (.int .i64 y) := (hg9.block bt hlt (by simp; omega)).trans htb
              have hgw9 : w.grownBy w9 (some bp) := grow_own hgr hg9 (fun b e => by simp at e; omega)
              have hp9 : PB w9 bp s (j + n5) o (.map (some g)) := (hg9.block bp hxr.1.lt (by simp; omega)).trans hxr.1
              have hx9 : PX w9 bp s (j + n5) o g := h.next hgw9 hp9 hgb hlo hjn
              have hbx9 : Box w9 w.heap.size z8 := (hg9.block _ hbxr.lt (by simp; omega)).trans hbxr
              clear hw9 hs9 hk8 ht8 h8 hg8 t0 t1 t2 t3 q0 q1 q2 q3 q4 q5 q6 q7 f0 f1 f2 f3 f4 f5 f6 f7
              obtain ⟨t0, t1, t2, t3⟩ := times_cells ht9
              have hal9 : Below w9.heap.size w9 (w9.alloc (.cells #[.int .i64 x, .int .i64 y] 74)) := (Below.refl _ _).alloc (Nat.le_refl _) _
              have hxa : PX (w9.alloc (.cells #[.int .i64 x, .int .i64 y] 74)) bp s (j + n5) o g := hx9.next (grown_of_below hal9) (hx9.1.alloc _) hgb hlo hjn
              have hta : TB (w9.alloc (.cells #[.int .i64 x, .int .i64 y] 74)) w9.heap.size (.int .i64 x) (.int .i64 y) := heap_alloc_new w9 _
              have hl9 := h9.lt
              have hbp9 := hx9.1.lt
              have hn5 := (repR_le hrp).2 rfl
              obtain ⟨f, rfl⟩ : ∃ f', f = f' + 1 := ⟨f - 1, by omega⟩
              rw [repLoop_go hrp, ← rest_drop, shiftR_add] at hsh
              rcases hrp2 : repR (rest s (j + n5)) with d2 | ⟨opt3, n6⟩
              · obtain rfl : r = .error (j - i + n5 + d2) := by
                  rw [hrR, ← hsh, repLoop_bad hrp2]
                  rfl
                go_wp2_with (first | (go_at_call 115; refine (repetition_any s (j + n5) o g bp _ hxa.1 hxa.2.1 hgb hjn (by omega) hxa.2.2.1 hf hlo).mono ?_; rw [hrp2]; rintro e w10 ⟨rfl, h10⟩))
                exact ⟨rfl, by rw [show j + n5 + d2 = i + (j - i + n5 + d2) from by omega], (hgw9.trans (grown_of_below hal9)).trans h10⟩
              · have hn6 := rest_le (repR_le hrp2).1 hjn
                go_wp2_with (first | (go_at_call 115; refine (repetition_any s (j + n5) o g bp _ hxa.1 hxa.2.1 hgb hjn (by omega) hxa.2.2.1 hf hlo).mono ?_; rw [hrp2]; simp only [Res, repV_eq]; rintro e w10 ⟨rfl, h10⟩; obtain ⟨t0, t1, t2, t3⟩ := times_cells (res_keep h10.1 (by omega) hta)))
                have hta10 := res_keep h10.1 (by omega) hta
                have hs11 := (go_set w10 w9.heap.size 0 (.int .i64 (ox opt3))).trans (go_set _ w9.heap.size 1 (.int .i64 (oy opt3)))
                have ht11 := hta10.put (.int .i64 (ox opt3)) (.int .i64 (oy opt3))
                have hsz10 := h10.1.size
                have hsza := hal9.size
                have hst : ∀ c, c < w9.heap.size → c ≠ bp → ((w10.setCell ⟨w9.heap.size, 0, none⟩ (.int .i64 (ox opt3))).setCell ⟨w9.heap.size, 1, none⟩ (.int .i64 (oy opt3))).heap[c]? = w9.heap[c]? := fun c hc hcb =>
                  (hs11.block c (by omega) (by simp; omega)).trans ((h10.1.block c (by omega) (by simpa using hcb)).trans (hal9.block c hc))
                have hg10 := (hgw9.trans (grown_of_below (x := some bp) hal9)).trans h10.1
                have hg11 := grow_own hg10 hs11 (fun b e => by simp at e; omega)
                have hp11 : PB _ bp s (j + n5 + n6) o (.map (some g)) := (hs11.block bp h10.2.lt (by simp; omega)).trans h10.2
                refine ⟨⟨j + n5, n6, f, opt3, Pat.mk 3 (0#256) x y [q], _, 1, w9.heap.size, rfl, rfl, hrp2, by omega, hn6, by omega, by rw [← hsh]; congr 1; omega, ht11, hl9, (hst _ hl9 (by omega)).trans h9, ?_, h.next hg11 hp11 hgb hlo hn6, (hst _ hbx9.lt hne).trans hbx9, hg11⟩, ?_⟩
                · exact Kids.keep hk9 fun c h1 h2 h3 => ⟨hst c h3 (by omega), h1, h2⟩
                · have hpp : posOf bp _ = j + n5 + n6 := PB.pos hp11
                  rw [hpp, hxr.1.pos]
                  have h6 := (repR_le hrp2).2
                  cases opt3
                  · simp only [okM, Option.isSome_none]
                    omega
                  · have := h6 rfl
                    simp only [okM, Option.isSome_some]
                    omega
    · obtain ⟨c, hr, hc2⟩ := sees_cons hc
      have hk1 := seesB_lt hc
      rw [notsN_yes hr hc2] at hn
      have e1 : IntKind.i64.wrap ((k : Int) + 1) = (k : Int) + 1 := by rw [IntKind.wrap_i64]; omega
      go_wp2_with (first | (go_at_call 97; refine (skip_any s 126 (i + k) o _ bp _ hx.1 hk (by omega) true hc).mono ?_; simp only [cond_true]; rintro e w3 ⟨rfl, h3⟩))
      have hx3 : PX w3 bp s (i + (k + 1)) o g := hx.next h3.1 h3.2 hgb hlo (by omega)
      exact ⟨⟨k + 1, num_succ k, by omega, by rw [← Nat.add_assoc]; omega, hx3, hbx.keep h3.1 hne, hg.trans h3.1⟩, by rw [hx3.1.pos, hx.1.pos]; omega⟩
end Go.Proofs.YtkpfpegjapddfaaGreatDoor
set_option maxRecDepth 20000
namespace Go.Proofs.YtkpfpegjapddfaaGreatDoor
open Go.RowKit

/-- What ends a row of items. -/
def stopB (l : List UInt8) : Bool := l.isEmpty || seesB l 124 || seesB l 38 || seesB l 41
def seqLoop (item : List UInt8 → Except Nat (Pat × Nat)) : Nat → List UInt8 → Except Nat (List Pat × Nat)
  | 0, _ => .ok ([], 0)
  | f + 1, l => if stopB l = true then .ok ([], 0) else match item l with
      | .error d => .error d
      | .ok (p, n) => match seqLoop item f (l.drop n) with
        | .error d => .error (n + d)
        | .ok (ps, k) => .ok (p :: ps, n + k)
def seqR (item : List UInt8 → Except Nat (Pat × Nat)) (l : List UInt8) : Except Nat (Pat × Nat) := jr 1 (seqLoop item (l.length + 1) l)
theorem seqLoop_stop {item : List UInt8 → Except Nat (Pat × Nat)} {f : Nat} {l : List UInt8} (h : stopB l = true) : seqLoop item (f + 1) l = .ok ([], 0) := by
  show (if stopB l = true then _ else _) = _
  rw [if_pos h]
theorem seqLoop_bad {item : List UInt8 → Except Nat (Pat × Nat)} {f d : Nat} {l : List UInt8} (h : stopB l = false) (hp : item l = .error d) : seqLoop item (f + 1) l = .error d := by
  show (if stopB l = true then _ else (match item l with | .error d => _ | .ok (p, n) => _)) = _
  rw [if_neg (by rw [h]; decide), hp]
theorem seqLoop_go {item : List UInt8 → Except Nat (Pat × Nat)} {f n : Nat} {p : Pat} {l : List UInt8} (ps : List Pat) (d : Nat) (h : stopB l = false) (hp : item l = .ok (p, n)) : comb ps d (seqLoop item (f + 1) l) = comb (ps ++ [p]) (d + n) (seqLoop item f (l.drop n)) := by
  have h1 : seqLoop item (f + 1) l = match seqLoop item f (l.drop n) with
        | .error d => .error (n + d)
        | .ok (ps, k) => .ok (p :: ps, n + k) := by
    show (if stopB l = true then _ else (match item l with | .error d => _ | .ok (p, n) => _)) = _
    rw [if_neg (by rw [h]; decide), hp]
  rw [h1]
  rcases seqLoop item f (l.drop n) with e | ⟨qs, k⟩
  · simp [comb, Nat.add_assoc]
  · simp [comb, Nat.add_assoc]
def SeqRel (item : List UInt8 → Except Nat (Pat × Nat)) (R0 : Except Nat (List Pat × Nat)) (w : World) (bp : Nat) (s : ByteArray) (i o g : Nat) (v : Value) (wr : World) : Prop :=
  ∃ (j f : Nat) (L : List (Pat × Value)) (a : Option Addr) (cap : Nat), v = .slice a L.length cap ∧ i ≤ j ∧ j ≤ s.size ∧ s.size - j < f ∧ L.length ≤ j - i ∧ comb (L.map Prod.fst) (j - i) (seqLoop item f (rest s j)) = R0 ∧ NRow wr (w.heap.size + 1) (.slice a L.length cap) L ∧ PX wr bp s j o g ∧ Box wr w.heap.size z8 ∧ w.grownBy wr (some bp)
theorem sees_lit (s : ByteArray) (b : Nat) (B : Int) (hB : B = b) (i o : Nat) (m : Value) (bp : Nat) (w : World) (h : PB w bp s i o m) (hi : i ≤ s.size) (v : Bool) (hv : seesB (rest s i) b = v) : Calls Tryz.prog 106 #[.pointer (some ⟨bp, 0, none⟩), .int .u8 B] w fun e w' => e = .returned (.bool v) ∧ ∃ n, w' = w.drewN n := by
  subst hB
  exact sees_any s b i o m bp w h hi v hv
theorem seq_step {item : List UInt8 → Except Nat (Pat × Nat)} {R0 : Except Nat (List Pat × Nat)} {w w3 w4 w7 : World} {bp : Nat} {s : ByteArray} {i j o g f n2 : Nat} {v' : Value} {L : List (Pat × Value)} {a a4 : Option Addr} {cap c4 : Nat} {p2 : Pat}
    (h : PX w bp s i o g) (hbp : bp < w.heap.size) (hgb : g ≠ bp) (hlo : Lo bp) (hij : i ≤ j) (hn0 : 0 < n2) (hn2 : j + n2 ≤ s.size) (hf : s.size - j < f + 1) (hLj : L.length ≤ j - i)
    (he : comb (L.map Prod.fst ++ [p2]) (j - i + n2) (seqLoop item f (rest s (j + n2))) = R0) (hbx : Box w3 w.heap.size z8) (hg : w.grownBy w3 (some bp)) (hN3 : NRow w3 (w.heap.size + 1) (.slice a L.length cap) L)
    (hk4 : KidsN w4 w3.heap.size p2.kids (.slice a4 p2.kids.length c4)) (h4 : PS w3 w4 bp s (j + n2) o (.map (some g))) (hN4 : NRow w4 (w.heap.size + 1) (.slice a L.length cap) L)
    (hown : w7.ownsRow (w.heap.size + 1) 28 8 v' (L.length + 1) (flatN L ++ [.int .i64 p2.op, .int .u64 (wd p2.set 0), .int .u64 (wd p2.set 1), .int .u64 (wd p2.set 2), .int .u64 (wd p2.set 3), .int .i64 p2.lo, .int .i64 p2.hi, .slice a4 p2.kids.length c4])) (hgrow : (w4.alloc (.cells #[.int .i64 p2.op, .int .u64 (wd p2.set 0), .int .u64 (wd p2.set 1), .int .u64 (wd p2.set 2), .int .u64 (wd p2.set 3), .int .i64 p2.lo, .int .i64 p2.hi, .slice a4 p2.kids.length c4] 28)).grownBy w7 (Value.slice a L.length cap).ownBlock)
    (hat : v'.ownBlock = (Value.slice a L.length cap).ownBlock ∨ v'.ownBlock = some (w4.alloc (.cells #[.int .i64 p2.op, .int .u64 (wd p2.set 0), .int .u64 (wd p2.set 1), .int .u64 (wd p2.set 2), .int .u64 (wd p2.set 3), .int .i64 p2.lo, .int .i64 p2.hi, .slice a4 p2.kids.length c4] 28)).heap.size) :
    SeqRel item R0 w bp s i o g v' w7 ∧ s.size - posOf bp w7 < s.size - j := by
  have hal : Below w4.heap.size w4 (w4.alloc (.cells #[.int .i64 p2.op, .int .u64 (wd p2.set 0), .int .u64 (wd p2.set 1), .int .u64 (wd p2.set 2), .int .u64 (wd p2.set 3), .int .i64 p2.lo, .int .i64 p2.hi, .slice a4 p2.kids.length c4] 28)) := (Below.refl _ _).alloc (Nat.le_refl _) _
  have hs2 := hg.size
  have hs4 := h4.1.size
  have hown3 := hN3.1.lt
  have hlb := hbx.lt
  have hp : Kids (mask (w4.alloc (.cells #[.int .i64 p2.op, .int .u64 (wd p2.set 0), .int .u64 (wd p2.set 1), .int .u64 (wd p2.set 2), .int .u64 (wd p2.set 3), .int .i64 p2.lo, .int .i64 p2.hi, .slice a4 p2.kids.length c4] 28)) (w.heap.size + 1) (Value.slice a L.length cap).ownBlock) p2.kids (.slice a4 p2.kids.length c4) :=
    (KidsN.masked hk4 (by omega) fun b e => (hown3 b e).2).masked_below hal
  have hN7 := (hN4.below hal).snoc hown hgrow hat hp
  have hne : ∀ k, k < w.heap.size + 1 → (Value.slice a L.length cap).ownBlock ≠ some k := fun k hk e => by have := (hown3 k e).1; omega
  have hp7 : PB w7 bp s (j + n2) o (.map (some g)) := (hgrow.block bp (h4.2.below hal).lt (fun e => hne bp (by omega) e.symm)).trans (h4.2.below hal)
  have hg7 : w.grownBy w7 (some bp) := grow_own ((hg.trans h4.1).trans (grown_of_below hal)) hgrow fun b e => by have := (hown3 b e).1; omega
  have hb4 := (hbx.keep h4.1 (by omega)).below hal
  have hb7 : Box w7 w.heap.size z8 := (hgrow.block _ hb4.lt (fun e => hne _ (by omega) e.symm)).trans hb4
  obtain ⟨a', cap', hv⟩ := hN7.form
  refine ⟨⟨j + n2, f, _, a', cap', hv, by omega, hn2, by omega, by simp; omega, ?_, by rw [← hv]; exact hN7, h.next hg7 hp7 hgb hlo hn2, hb7, hg7⟩, by rw [hp7.pos]; omega⟩
  rw [List.map_append, show j + n2 - i = j - i + n2 from by omega]
  exact he
set_option maxHeartbeats 4000000 in
theorem sequence_any (s : ByteArray) (bp g : Nat) (hs : s.size ≤ 20000) (hgb : g ≠ bp) (hlo : Lo bp) (item : List UInt8 → Except Nat (Pat × Nat)) (o : Nat)
    (hle : ∀ l p n, item l = .ok (p, n) → 0 < n ∧ n ≤ l.length)
    (hitem : ∀ i w, PX w bp s i o g → Calls Tryz.prog 107 #[.pointer (some ⟨bp, 0, none⟩)] w fun e w' => ResP (item (rest s i)) s i o (.map (some g)) bp w e w')
    (i : Nat) (w : World) (h : PX w bp s i o g) :
    Calls Tryz.prog 99 #[.pointer (some ⟨bp, 0, none⟩)] w fun e w' => ResP (seqR item (rest s i)) s i o (.map (some g)) bp w e w' := by
  have hbp := h.1.lt
  have hb0 : Below w.heap.size w (w.alloc (.cells #[.int .i64 0, .int .u64 0, .int .u64 0, .int .u64 0, .int .u64 0, .int .i64 0, .int .i64 0, .slice none 0 0] 28)) := (Below.refl _ _).alloc (Nat.le_refl _) _
  have hg0 : w.grownBy (w.alloc (.cells #[.int .i64 0, .int .u64 0, .int .u64 0, .int .u64 0, .int .u64 0, .int .i64 0, .int .i64 0, .slice none 0 0] 28)) (some bp) := grown_of_below hb0
  have h0 : PX (w.alloc (.cells #[.int .i64 0, .int .u64 0, .int .u64 0, .int .u64 0, .int .u64 0, .int .i64 0, .int .i64 0, .slice none 0 0] 28)) bp s i o g := h.next hg0 (h.1.alloc (.cells #[.int .i64 0, .int .u64 0, .int .u64 0, .int .u64 0, .int .u64 0, .int .i64 0, .int .i64 0, .slice none 0 0] 28)) hgb hlo h.2.2.2
  have hne : w.heap.size ≠ bp := by omega
  have ht0 : Box (w.alloc (.cells #[.int .i64 0, .int .u64 0, .int .u64 0, .int .u64 0, .int .u64 0, .int .i64 0, .int .i64 0, .slice none 0 0] 28)) w.heap.size z8 := Box.new w _ rfl
  obtain ⟨r, hr0⟩ : ∃ r, seqR item (rest s i) = r := ⟨_, rfl⟩
  obtain ⟨R0, hR⟩ : ∃ R0, seqLoop item (s.size - i + 1) (rest s i) = R0 := ⟨_, rfl⟩
  have hrR : r = jr 1 R0 := by rw [← hr0, ← hR]; unfold seqR; rw [rest_length]
  rw [hr0]
  go_enter Tryz.func99, Tryz.ntmps99
  go_wp2_with fail
  go_loopw [3] (fun v wr => SeqRel item R0 w bp s i o g v wr) (fun _ wr => s.size - posOf bp wr)
  case atStart => exact ⟨i, s.size - i + 1, [], none, 0, rfl, by omega, h.2.2.2, by omega, by simp, by rw [Nat.sub_self, ← hR]; rcases seqLoop item (s.size - i + 1) (rest s i) with e | ⟨qs, k⟩ <;> simp [comb], NRow.nil _ _, h0, ht0, hg0⟩
  case round =>
    clear h0 ht0 hg0 hb0
    obtain ⟨j, f, L, a, cap, rfl, hij, hjs, hf, hLj, he, hN, hx, hbx, hg⟩ := hrel
    go_upto_region 2 with fail
    go_cut [21] from 4 to 21 (fun v wx => v = .bool (!stopB (rest s j)) ∧ ∃ n, wx = wr.drewN n)
    case first =>
      obtain ⟨b0, k0⟩ : ∃ b, (rest s j).isEmpty = b := ⟨_, rfl⟩
      obtain ⟨b1, k1⟩ : ∃ b, seesB (rest s j) 124 = b := ⟨_, rfl⟩
      obtain ⟨b2, k2⟩ : ∃ b, seesB (rest s j) 38 = b := ⟨_, rfl⟩
      obtain ⟨b3, k3⟩ : ∃ b, seesB (rest s j) 41 = b := ⟨_, rfl⟩
      have hst : stopB (rest s j) = (b0 || b1 || b2 || b3) := by unfold stopB; rw [k0, k1, k2, k3]
      clear he
      have hP := hx.1
      have hQ : ∃ n, wr = wr.drewN n := ⟨0, rfl⟩
      cases b0 <;> cases b1 <;> cases b2 <;> cases b3
      all_goals
        go_wp2_with (first | (go_at_call 79; (with_reducible refine (atEnd_any s j o _ bp _ hP hjs _ k0).mono ?_); rintro e w1 ⟨rfl, hq⟩; replace hP := PB.quiet hP hq; replace hQ := quiet_trans hQ hq) | (go_at_call 106; (with_reducible refine (sees_lit s 124 124 rfl j o _ bp _ hP hjs _ k1).mono ?_); rintro e w1 ⟨rfl, hq⟩; replace hP := PB.quiet hP hq; replace hQ := quiet_trans hQ hq) | (go_at_call 106; (with_reducible refine (sees_lit s 38 38 rfl j o _ bp _ hP hjs _ k2).mono ?_); rintro e w1 ⟨rfl, hq⟩; replace hP := PB.quiet hP hq; replace hQ := quiet_trans hQ hq) | (go_at_call 106; (with_reducible refine (sees_lit s 41 41 rfl j o _ bp _ hP hjs _ k3).mono ?_); rintro e w1 ⟨rfl, hq⟩; replace hP := PB.quiet hP hq; replace hQ := quiet_trans hQ hq))
        go_meet
        exact ⟨by rw [hst]; rfl, hQ⟩
    case rest =>
      obtain ⟨rfl, n0, rfl⟩ := hcut
      have hq0 : Below wr.heap.size wr (wr.drewN n0) := below_drewN wr n0
      have hx2 : PX (wr.drewN n0) bp s j o g := hx.next (grown_of_below hq0) (hx.1.below hq0) hgb hlo hjs
      have hN2 := hN.below hq0
      have hbx2 := hbx.below hq0
      have hg2 := hg.trans (grown_of_below (x := some bp) hq0)
      have hps := hx.1.pos
      clear hq0 hx hN hbx hg
      obtain ⟨w2, hw2⟩ : ∃ z, z = wr.drewN n0 := ⟨_, rfl⟩
      rw [← hw2] at hx2 hN2 hbx2 hg2 ⊢
      clear hw2
      obtain ⟨f, rfl⟩ : ∃ f', f = f' + 1 := ⟨f - 1, by omega⟩
      obtain ⟨c, hc⟩ : ∃ c, stopB (rest s j) = c := ⟨_, rfl⟩
      cases c
      · simp only [hc, Bool.not_false]
        rcases hq2 : item (rest s j) with d | ⟨p2, n2⟩
        · rw [seqLoop_bad hc hq2] at he
          obtain rfl : r = .error (j - i + d) := by
            rw [hrR, ← he]
            rfl
          go_wp2_with (first | (go_at_call 107; refine (hitem j _ hx2).mono ?_; rw [hq2]; rintro e w4 ⟨rfl, h4⟩))
          exact ⟨rfl, by rw [show j + d = i + (j - i + d) from by omega], hg2.trans h4⟩
        · rw [seqLoop_go _ _ hc hq2, ← rest_drop] at he
          have hle2 := hle _ _ _ hq2
          have hn2 := rest_le hle2.2 hjs
          obtain ⟨i0, hi, hy0, hy1, hy2⟩ := info_parts infoNode
          have hs2 := hg2.size
          go_wp2_with (first | (go_at_call 107; refine (hitem j _ hx2).mono ?_; rw [hq2]; rintro e w4 ⟨a4, c4, rfl, hk4, h4⟩; have hN4 := hN2.keepP h4.1 (by omega); have hs4 := h4.1.size) | (at_builtin; refine wpList_append_own_at _ rfl _ _ 26 rfl (w.heap.size + 1) 28 i0 (.agg #[.int .i64 0, .int .u64 0, .int .u64 0, .int .u64 0, .int .u64 0, .int .i64 0, .int .i64 0, .slice none 0 0]) 8 80 Tryz.underlying26 hi hy0 hy1 hy2 rfl (by decide) (.slice a L.length cap) _ _ rfl (hN4.1.alloc _) ⟨w4.heap.size, 0, none⟩ 1 1 [.int .i64 p2.op, .int .u64 (wd p2.set 0), .int .u64 (wd p2.set 1), .int .u64 (wd p2.set 2), .int .u64 (wd p2.set 3), .int .i64 p2.lo, .int .i64 p2.hi, .slice a4 p2.kids.length c4] rfl rfl (cell_eight_new _ _ _ _) (by simp [Value.oneCell']) (by unfold maxLen; omega) (by omega) (by have := hbx2.lt; simp; omega) ?_; intro v' w7 hown' hgrow _ hat))
          have hst := seq_step h hbp hgb hlo hij hle2.1 hn2 hf hLj he hbx2 hg2 hN2 hk4 h4 hN4 hown' hgrow hat
          exact ⟨hst.1, by rw [hps]; exact hst.2⟩
      · simp only [hc, Bool.not_true]
        rw [seqLoop_stop hc] at he
        obtain rfl : r = .ok (joinP 1 (L.map Prod.fst), j - i) := by
          rw [hrR, ← he]
          simp [comb, jr]
        rcases L with _ | ⟨⟨q, kv⟩, _ | ⟨y, L⟩⟩
        · have hlen : (([] : List (Pat × Value)).length : Nat) ≠ 1 := by simp
          go_wp2_with (first | (go_at_call 98; refine (joined_many 1 a _ cap hlen w2 []).mono ?_; rintro e w5 ⟨rfl, hb5⟩; have hx5 := hbx2.below hb5; obtain ⟨x0, x1, x2, x3, x4, x5, x6, x7⟩ := Box.cells hx5; obtain ⟨y0, y1, y2, y3, y4, y5, y6, y7⟩ := Box.frees hx5))
          exact bodyPost_ret (v := (.agg #[.int .i64 (Pat.mk 1 0 0 0 []).op, .int .u64 (wd (Pat.mk 1 0 0 0 []).set 0), .int .u64 (wd (Pat.mk 1 0 0 0 []).set 1), .int .u64 (wd (Pat.mk 1 0 0 0 []).set 2), .int .u64 (wd (Pat.mk 1 0 0 0 []).set 3), .int .i64 (Pat.mk 1 0 0 0 []).lo, .int .i64 (Pat.mk 1 0 0 0 []).hi, .slice a 0 cap])) (by simp [results, Tryz.results99, go_sem, Pat.op, Pat.set, Pat.lo, Pat.hi, *]) rfl ⟨a, cap, rfl, Kids.nil _ _ _, PS.result8 (Nat.le_refl _) hbp (hg2.trans (grown_of_below hb5)) (by have := hx2.1.below hb5; rwa [show j = i + (j - i) from by omega] at this)⟩
        · obtain ⟨b, aq, cq, rfl, rfl, hcl, hkq⟩ := row_one hN2
          go_wp2_with (first | (go_at_call 98; refine (joined_one 1 q aq q.kids.length cq w2 b cap hcl).mono ?_; rintro e w5 ⟨rfl, hb5⟩; have hx5 := hbx2.below hb5; obtain ⟨x0, x1, x2, x3, x4, x5, x6, x7⟩ := Box.cells hx5; obtain ⟨y0, y1, y2, y3, y4, y5, y6, y7⟩ := Box.frees hx5))
          exact bodyPost_ret (v := (.agg #[.int .i64 q.op, .int .u64 (wd q.set 0), .int .u64 (wd q.set 1), .int .u64 (wd q.set 2), .int .u64 (wd q.set 3), .int .i64 q.lo, .int .i64 q.hi, .slice aq q.kids.length cq])) (by simp [results, Tryz.results99, go_sem, *]) rfl ⟨aq, cq, rfl, ((hkq.below hb5).set8 (by omega) _ _ _ _ _ _ _ _).mono (by omega), PS.result8 (Nat.le_refl _) hbp (hg2.trans (grown_of_below hb5)) (by have := hx2.1.below hb5; rwa [show j = i + (j - i) from by omega] at this)⟩
        · have hlen : (((q, kv) :: y :: L).length : Nat) ≠ 1 := by simp
          go_wp2_with (first | (go_at_call 98; refine (joined_many 1 a _ cap hlen w2 (((q, kv) :: y :: L).map Prod.fst)).mono ?_; rintro e w5 ⟨rfl, hb5⟩; have hx5 := hbx2.below hb5; obtain ⟨x0, x1, x2, x3, x4, x5, x6, x7⟩ := Box.cells hx5; obtain ⟨y0, y1, y2, y3, y4, y5, y6, y7⟩ := Box.frees hx5))
          exact bodyPost_ret (v := (.agg #[.int .i64 (Pat.mk 1 0 0 0 (((q, kv) :: y :: L).map Prod.fst)).op, .int .u64 (wd (Pat.mk 1 0 0 0 (((q, kv) :: y :: L).map Prod.fst)).set 0), .int .u64 (wd (Pat.mk 1 0 0 0 (((q, kv) :: y :: L).map Prod.fst)).set 1), .int .u64 (wd (Pat.mk 1 0 0 0 (((q, kv) :: y :: L).map Prod.fst)).set 2), .int .u64 (wd (Pat.mk 1 0 0 0 (((q, kv) :: y :: L).map Prod.fst)).set 3), .int .i64 (Pat.mk 1 0 0 0 (((q, kv) :: y :: L).map Prod.fst)).lo, .int .i64 (Pat.mk 1 0 0 0 (((q, kv) :: y :: L).map Prod.fst)).hi, .slice a (((q, kv) :: y :: L).map Prod.fst).length cap])) (by simp [results, Tryz.results99, go_sem, Pat.op, Pat.set, Pat.lo, Pat.hi, *]) rfl ⟨a, cap, rfl, by
            have hk := hN2.kidsN.below hb5
            rw [show ((q, kv) :: y :: L).length = (((q, kv) :: y :: L).map Prod.fst).length from by simp] at hk
            exact (hk.set8 (by omega) _ _ _ _ _ _ _ _).mono (by omega), PS.result8 (Nat.le_refl _) hbp (hg2.trans (grown_of_below hb5)) (by have := hx2.1.below hb5; rwa [show j = i + (j - i) from by omega] at this)⟩
end Go.Proofs.YtkpfpegjapddfaaGreatDoor
set_option maxRecDepth 20000
namespace Go.Proofs.YtkpfpegjapddfaaGreatDoor
open Go.RowKit

def setP (a : BitVec 256) : Pat := Pat.mk 0 a 0 0 []
/-- What a dot matches. -/
def dotS : BitVec 256 := ~~~ofB [10]
/-- An atom without brackets. -/
def leafR (l : List UInt8) : Except Nat (Pat × Nat) := if seesB l 91 = true then (match clsR (l.drop 1) with
    | .error d => .error (d + 1)
    | .ok (a, n) => .ok (setP a, n + 1))
  else if seesB l 46 = true then .ok (setP dotS, 1) else match oneB plainB l with
    | none => .error 0
    | some (b, n) => .ok (setP (ofP (rangeP b b)), n)
def patR (atom : List UInt8 → Except Nat (Pat × Nat)) : List UInt8 → Except Nat (Pat × Nat) := rowR (rowR (seqR (itemR atom)) 4 38) 2 124
/-- A pattern in brackets. -/
def groupR (pat : List UInt8 → Except Nat (Pat × Nat)) (l : List UInt8) : Except Nat (Pat × Nat) := match pat (l.drop 1) with
  | .error e => .error (e + 1)
  | .ok (p, n) => if seesB (l.drop (n + 1)) 41 = true then .ok (p, n + 2) else .error (n + 1)
def atomR : Nat → List UInt8 → Except Nat (Pat × Nat)
  | 0, l => if seesB l 40 = true then .error 0 else leafR l
  | d + 1, l => if seesB l 40 = true then groupR (patR (atomR d)) l else leafR l
theorem anyOfLine_any (w : World) : Calls Tryz.prog 30 #[] w fun e w' => e = .returned (.agg #[.int .u64 (wd (dotS) 0), .int .u64 (wd (dotS) 1), .int .u64 (wd (dotS) 2), .int .u64 (wd (dotS) 3)]) ∧ Below w.heap.size w w' := by
  go_enter Tryz.func30, Tryz.ntmps30
  go_wp2_with (first
    | (go_at_call 56; refine (of_any _ _ (by decide)).mono ?_; rintro e w1 ⟨rfl, hb1⟩)
    | (go_at_call 55; refine (not_any _ _).mono ?_; rintro e w2 ⟨rfl, hb2⟩; have hx2 := ((SetAt.zero w).grown hb1).grown hb2; obtain ⟨x0, x1, x2, x3⟩ := hx2.cells; obtain ⟨y0, y1, y2, y3⟩ := hx2.free))
  have hb := below_step (below_step ((Below.refl _ w).alloc (Nat.le_refl _) (.cells #[.int .u64 0, .int .u64 0, .int .u64 0, .int .u64 0] 24)) hb1) hb2
  exact bodyPost_ret (v := (.agg #[.int .u64 (wd (dotS) 0), .int .u64 (wd (dotS) 1), .int .u64 (wd (dotS) 2), .int .u64 (wd (dotS) 3)])) (by simp [results, Tryz.results30, go_sem, dotS, *]) rfl ⟨rfl, below_set4 hb (Nat.le_refl _) _ _ _ _⟩
theorem expect_litY (s : ByteArray) (b : Nat) (B : Int) (hB : B = b) (i o : Nat) (m : Value) (bp : Nat) (w : World) (h : PB w bp s i o m) (hi : i ≤ s.size) (hs : s.size ≤ 65536) (hv : seesB (rest s i) b = true) : Calls Tryz.prog 124 #[.pointer (some ⟨bp, 0, none⟩), .int .u8 B] w fun e w' => e = .returned (.tuple #[]) ∧ PS w w' bp s (i + 1) o m := by
  subst hB
  exact expect_yes s b i o m bp w h hi hs hv
theorem expect_litN (s : ByteArray) (b : Nat) (B : Int) (hB : B = b) (i o : Nat) (m : Value) (bp : Nat) (w : World) (h : PB w bp s i o m) (hi : i ≤ s.size) (hs : s.size ≤ 65536) (hv : seesB (rest s i) b = false) : Calls Tryz.prog 124 #[.pointer (some ⟨bp, 0, none⟩), .int .u8 B] w fun e w' => e = .panicked (probV i) ∧ PS w w' bp s i o m := by
  subst hB
  exact expect_no s b i o m bp w h hi hs hv
theorem groupR_ok {pat : List UInt8 → Except Nat (Pat × Nat)} {s : ByteArray} {i n : Nat} {p : Pat} (hq : pat (rest s (i + 1)) = .ok (p, n)) : groupR pat (rest s i) = if seesB (rest s (i + 1 + n)) 41 = true then .ok (p, n + 2) else .error (n + 1) := by
  unfold groupR
  rw [← rest_drop, hq]
  show (if seesB ((rest s i).drop (n + 1)) 41 = true then _ else _) = _
  rw [← rest_drop, show i + (n + 1) = i + 1 + n from by omega]
set_option maxHeartbeats 1000000 in
theorem group_any (s : ByteArray) (bp g : Nat) (hs : s.size ≤ 20000) (hgb : g ≠ bp) (hlo : Lo bp) (pat : List UInt8 → Except Nat (Pat × Nat)) (o : Nat) (ho : o < 32)
    (hle : ∀ l p n, pat l = .ok (p, n) → n ≤ l.length)
    (hpat : ∀ i w, PX w bp s i (o + 1) g → Calls Tryz.prog 78 #[.pointer (some ⟨bp, 0, none⟩)] w fun e w' => ResP (pat (rest s i)) s i (o + 1) (.map (some g)) bp w e w')
    (i : Nat) (w : World) (h : PX w bp s i o g) (hv : seesB (rest s i) 40 = true) :
    Calls Tryz.prog 118 #[.pointer (some ⟨bp, 0, none⟩)] w fun e w' => ResP (groupR pat (rest s i)) s i o (.map (some g)) bp w e w' := by
  have hbp := h.1.lt
  have hb0 : Below w.heap.size w (w.alloc (.cells #[.int .i64 0, .int .u64 0, .int .u64 0, .int .u64 0, .int .u64 0, .int .i64 0, .int .i64 0, .slice none 0 0] 28)) := (Below.refl _ _).alloc (Nat.le_refl _) _
  have hg0 : w.grownBy (w.alloc (.cells #[.int .i64 0, .int .u64 0, .int .u64 0, .int .u64 0, .int .u64 0, .int .i64 0, .int .i64 0, .slice none 0 0] 28)) (some bp) := grown_of_below hb0
  have h0 : PX (w.alloc (.cells #[.int .i64 0, .int .u64 0, .int .u64 0, .int .u64 0, .int .u64 0, .int .i64 0, .int .i64 0, .slice none 0 0] 28)) bp s i o g := h.next hg0 (h.1.alloc (.cells #[.int .i64 0, .int .u64 0, .int .u64 0, .int .u64 0, .int .u64 0, .int .i64 0, .int .i64 0, .slice none 0 0] 28)) hgb hlo h.2.2.2
  have hne : w.heap.size ≠ bp := by omega
  have ht0 : Box (w.alloc (.cells #[.int .i64 0, .int .u64 0, .int .u64 0, .int .u64 0, .int .u64 0, .int .i64 0, .int .i64 0, .slice none 0 0] 28)) w.heap.size z8 := Box.new w _ rfl
  have hi1 := seesB_lt hv
  have hs6 : s.size ≤ 65536 := by omega
  have hP0 := h0.1
  have hii := h.2.2.2
  obtain ⟨p0, p1, p2, p3⟩ := h0.1.cells
  have o32 : ((o : Int) == 32) = false := by rw [beq_eq_false_iff_ne]; omega
  have e1 : IntKind.i64.wrap ((o : Int) + 1) = (o : Int) + 1 := by rw [IntKind.wrap_i64]; omega
  have e2 : IntKind.i64.wrap ((o : Int) + 1 - 1) = (o : Int) := by rw [IntKind.wrap_i64]; omega
  rcases hq : pat (rest s (i + 1)) with d | ⟨p, n⟩
  · have hr : groupR pat (rest s i) = .error (d + 1) := by
      unfold groupR
      rw [← rest_drop, hq]
    rw [hr]
    go_enter Tryz.func118, Tryz.ntmps118
    go_wp2_with (first | (go_at_call 124; (with_reducible refine (expect_litY s 40 40 rfl i o _ bp _ hP0 hii hs6 hv).mono ?_); rintro e w1 ⟨rfl, h1⟩; obtain ⟨q0, q1, q2, q3⟩ := h1.2.cells; have f2 := h1.2.free 2; have h2 := PB.opened h1.2 (o + 1) (x := (o : Int) + 1) (by omega); have hx2 : PX (w1.setCell ⟨bp, 2, none⟩ (.int .i64 ((o : Int) + 1))) bp s (i + 1) (o + 1) g := h0.next (h1.1.trans (go_set w1 bp 2 _)) h2 hgb hlo (by omega)) | (go_at_call 78; refine (hpat (i + 1) _ hx2).mono ?_; rw [hq]; rintro e w3 ⟨rfl, h3⟩))
    exact ⟨rfl, by rw [show i + 1 + d = i + (d + 1) from by omega], ((hg0.trans h1.1).trans (go_set w1 bp 2 _)).trans h3⟩
  · have hin := rest_le (hle _ _ _ hq) hi1
    by_cases hc : seesB (rest s (i + 1 + n)) 41 = true
    · have hr : groupR pat (rest s i) = .ok (p, n + 2) := by
        rw [groupR_ok hq, if_pos hc]
      rw [hr]
      go_enter Tryz.func118, Tryz.ntmps118
      go_wp2_with (first | (go_at_call 124; (with_reducible refine (expect_litY s 40 40 rfl i o _ bp _ hP0 hii hs6 hv).mono ?_); rintro e w1 ⟨rfl, h1⟩; obtain ⟨q0, q1, q2, q3⟩ := h1.2.cells; have f2 := h1.2.free 2; have h2 := PB.opened h1.2 (o + 1) (x := (o : Int) + 1) (by omega); have hx2 : PX (w1.setCell ⟨bp, 2, none⟩ (.int .i64 ((o : Int) + 1))) bp s (i + 1) (o + 1) g := h0.next (h1.1.trans (go_set w1 bp 2 _)) h2 hgb hlo (by omega)) | (go_at_call 78; refine (hpat (i + 1) _ hx2).mono ?_; rw [hq]; rintro e w3 ⟨a3, c3, rfl, hk3, h3⟩; have hal : Below w3.heap.size w3 (w3.alloc (.cells #[.int .i64 p.op, .int .u64 (wd p.set 0), .int .u64 (wd p.set 1), .int .u64 (wd p.set 2), .int .u64 (wd p.set 3), .int .i64 p.lo, .int .i64 p.hi, .slice a3 p.kids.length c3] 28)) := (Below.refl _ _).alloc (Nat.le_refl _) _; have hp3 := h3.2.alloc (.cells #[.int .i64 p.op, .int .u64 (wd p.set 0), .int .u64 (wd p.set 1), .int .u64 (wd p.set 2), .int .u64 (wd p.set 3), .int .i64 p.lo, .int .i64 p.hi, .slice a3 p.kids.length c3] 28)) | (go_at_call 124; (with_reducible refine (expect_litY s 41 41 rfl (i + 1 + n) (o + 1) _ bp _ hp3 hin hs6 hc).mono ?_); rintro e w4 ⟨rfl, h4⟩; obtain ⟨q0, q1, q2, q3⟩ := h4.2.cells; have f2 := h4.2.free 2; have hn4 := Box.keep (Box.new w3 #[.int .i64 p.op, .int .u64 (wd p.set 0), .int .u64 (wd p.set 1), .int .u64 (wd p.set 2), .int .u64 (wd p.set 3), .int .i64 p.lo, .int .i64 p.hi, .slice a3 p.kids.length c3] rfl) h4.1 (by have := h3.2.lt; omega); have hr4 := (((((ht0.keep h1.1 hne).other (a := ⟨bp, 2, none⟩) hne (.int .i64 ((o : Int) + 1))).keep h3.1 hne).alloc (.cells #[.int .i64 p.op, .int .u64 (wd p.set 0), .int .u64 (wd p.set 1), .int .u64 (wd p.set 2), .int .u64 (wd p.set 3), .int .i64 p.lo, .int .i64 p.hi, .slice a3 p.kids.length c3] 28)).keep h4.1 hne); obtain ⟨n0, n1, n2, n3, n4, n5, n6, n7⟩ := Box.cells hn4; obtain ⟨x0, x1, x2, x3, x4, x5, x6, x7⟩ := Box.cells hr4; obtain ⟨y0, y1, y2, y3, y4, y5, y6, y7⟩ := Box.frees hr4; have hnb := h3.2.lt))
      have hlo3 : w.heap.size + 1 ≤ (w1.setCell ⟨bp, 2, none⟩ (.int .i64 ((o : Int) + 1))).heap.size := by
        have h8 := h1.1.size
        have h9 := (go_set w1 bp 2 (.int .i64 ((o : Int) + 1))).size
        have h7 : (w.alloc (.cells #[.int .i64 0, .int .u64 0, .int .u64 0, .int .u64 0, .int .u64 0, .int .i64 0, .int .i64 0, .slice none 0 0] 28)).heap.size = w.heap.size + 1 := by simp
        omega
      have hk5 := (((hk3.below hal).keepP h4.1 (by omega)).set1 (i := 2) (b := bp) (by omega) (.int .i64 (o : Int)))
      exact bodyPost_ret (v := (.agg #[.int .i64 p.op, .int .u64 (wd p.set 0), .int .u64 (wd p.set 1), .int .u64 (wd p.set 2), .int .u64 (wd p.set 3), .int .i64 p.lo, .int .i64 p.hi, .slice a3 p.kids.length c3])) (by simp [results, Tryz.results118, go_sem, *]) rfl ⟨a3, c3, rfl, (hk5.set8 (by omega) _ _ _ _ _ _ _ _).mono (by omega), PS.result8 (Nat.le_refl _) hbp (((((hg0.trans h1.1).trans (go_set w1 bp 2 _)).trans h3.1).trans ((grown_of_below (x := some bp) hal).trans h4.1)).trans (go_set _ bp 2 _)) (by have := PB.opened h4.2 o (x := (o : Int)) rfl; rwa [show i + 1 + n + 1 = i + (n + 2) from by omega] at this)⟩
    · rw [Bool.not_eq_true] at hc
      have hr : groupR pat (rest s i) = .error (n + 1) := by
        rw [groupR_ok hq, if_neg (by rw [hc]; decide)]
      rw [hr]
      go_enter Tryz.func118, Tryz.ntmps118
      go_wp2_with (first | (go_at_call 124; (with_reducible refine (expect_litY s 40 40 rfl i o _ bp _ hP0 hii hs6 hv).mono ?_); rintro e w1 ⟨rfl, h1⟩; obtain ⟨q0, q1, q2, q3⟩ := h1.2.cells; have f2 := h1.2.free 2; have h2 := PB.opened h1.2 (o + 1) (x := (o : Int) + 1) (by omega); have hx2 : PX (w1.setCell ⟨bp, 2, none⟩ (.int .i64 ((o : Int) + 1))) bp s (i + 1) (o + 1) g := h0.next (h1.1.trans (go_set w1 bp 2 _)) h2 hgb hlo (by omega)) | (go_at_call 78; refine (hpat (i + 1) _ hx2).mono ?_; rw [hq]; rintro e w3 ⟨a3, c3, rfl, hk3, h3⟩; have hal : Below w3.heap.size w3 (w3.alloc (.cells #[.int .i64 p.op, .int .u64 (wd p.set 0), .int .u64 (wd p.set 1), .int .u64 (wd p.set 2), .int .u64 (wd p.set 3), .int .i64 p.lo, .int .i64 p.hi, .slice a3 p.kids.length c3] 28)) := (Below.refl _ _).alloc (Nat.le_refl _) _; have hp3 := h3.2.alloc (.cells #[.int .i64 p.op, .int .u64 (wd p.set 0), .int .u64 (wd p.set 1), .int .u64 (wd p.set 2), .int .u64 (wd p.set 3), .int .i64 p.lo, .int .i64 p.hi, .slice a3 p.kids.length c3] 28)) | (go_at_call 124; (with_reducible refine (expect_litN s 41 41 rfl (i + 1 + n) (o + 1) _ bp _ hp3 hin hs6 hc).mono ?_); rintro e w4 ⟨rfl, h4⟩; obtain ⟨q0, q1, q2, q3⟩ := h4.2.cells; have f2 := h4.2.free 2))
      exact ⟨rfl, by rw [show i + 1 + n = i + (n + 1) from by omega], (((hg0.trans h1.1).trans (go_set w1 bp 2 _)).trans h3.1).trans ((grown_of_below (x := some bp) hal).trans h4.1)⟩
end Go.Proofs.YtkpfpegjapddfaaGreatDoor
set_option maxRecDepth 20000
namespace Go.Proofs.YtkpfpegjapddfaaGreatDoor
open Go.RowKit

theorem skip_litY (s : ByteArray) (b : Nat) (B : Int) (hB : B = b) (i o : Nat) (m : Value) (bp : Nat) (w : World) (h : PB w bp s i o m) (hi : i ≤ s.size) (hs : s.size ≤ 65536) (hv : seesB (rest s i) b = true) : Calls Tryz.prog 97 #[.pointer (some ⟨bp, 0, none⟩), .int .u8 B] w fun e w' => e = .returned (.bool true) ∧ PS w w' bp s (i + 1) o m := by
  subst hB
  exact skip_any s b i o m bp w h hi hs true hv
theorem skip_litN (s : ByteArray) (b : Nat) (B : Int) (hB : B = b) (i o : Nat) (m : Value) (bp : Nat) (w : World) (h : PB w bp s i o m) (hi : i ≤ s.size) (hs : s.size ≤ 65536) (hv : seesB (rest s i) b = false) : Calls Tryz.prog 97 #[.pointer (some ⟨bp, 0, none⟩), .int .u8 B] w fun e w' => e = .returned (.bool false) ∧ PS w w' bp s i o m := by
  subst hB
  exact skip_any s b i o m bp w h hi hs false hv
def atomX (gr : List UInt8 → Except Nat (Pat × Nat)) (l : List UInt8) : Except Nat (Pat × Nat) := if seesB l 40 = true then gr l else leafR l
set_option maxHeartbeats 1000000 in
theorem atomX_any (s : ByteArray) (bp g : Nat) (hs : s.size ≤ 20000) (hgb : g ≠ bp) (hlo : Lo bp) (gr : List UInt8 → Except Nat (Pat × Nat)) (o : Nat)
    (hgr : ∀ i w, PX w bp s i o g → seesB (rest s i) 40 = true → Calls Tryz.prog 118 #[.pointer (some ⟨bp, 0, none⟩)] w fun e w' => ResP (gr (rest s i)) s i o (.map (some g)) bp w e w')
    (i : Nat) (w : World) (h : PX w bp s i o g) :
    Calls Tryz.prog 114 #[.pointer (some ⟨bp, 0, none⟩)] w fun e w' => ResP (atomX gr (rest s i)) s i o (.map (some g)) bp w e w' := by
  have hbp := h.1.lt
  have hb0 : Below w.heap.size w (w.alloc (.cells #[.int .i64 0, .int .u64 0, .int .u64 0, .int .u64 0, .int .u64 0, .int .i64 0, .int .i64 0, .slice none 0 0] 28)) := (Below.refl _ _).alloc (Nat.le_refl _) _
  have hg0 : w.grownBy (w.alloc (.cells #[.int .i64 0, .int .u64 0, .int .u64 0, .int .u64 0, .int .u64 0, .int .i64 0, .int .i64 0, .slice none 0 0] 28)) (some bp) := grown_of_below hb0
  have h0 : PX (w.alloc (.cells #[.int .i64 0, .int .u64 0, .int .u64 0, .int .u64 0, .int .u64 0, .int .i64 0, .int .i64 0, .slice none 0 0] 28)) bp s i o g := h.next hg0 (h.1.alloc (.cells #[.int .i64 0, .int .u64 0, .int .u64 0, .int .u64 0, .int .u64 0, .int .i64 0, .int .i64 0, .slice none 0 0] 28)) hgb hlo h.2.2.2
  have hne : w.heap.size ≠ bp := by omega
  have hB : Box (w.alloc (.cells #[.int .i64 0, .int .u64 0, .int .u64 0, .int .u64 0, .int .u64 0, .int .i64 0, .int .i64 0, .slice none 0 0] 28)) w.heap.size z8 := Box.new w _ rfl
  have hii := h.2.2.2
  have hs6 : s.size ≤ 65536 := by omega
  have hP := h0.1
  have hG : (w.alloc (.cells #[.int .i64 0, .int .u64 0, .int .u64 0, .int .u64 0, .int .u64 0, .int .i64 0, .int .i64 0, .slice none 0 0] 28)).grownBy (w.alloc (.cells #[.int .i64 0, .int .u64 0, .int .u64 0, .int .u64 0, .int .u64 0, .int .i64 0, .int .i64 0, .slice none 0 0] 28)) (some bp) := go_refl _ _
  have hX : ∀ {w'}, (w.alloc (.cells #[.int .i64 0, .int .u64 0, .int .u64 0, .int .u64 0, .int .u64 0, .int .i64 0, .int .i64 0, .slice none 0 0] 28)).grownBy w' (some bp) → PB w' bp s i o (.map (some g)) → PX w' bp s i o g := fun h1 h2 => h0.next h1 h2 hgb hlo hii
  by_cases hv : seesB (rest s i) 40 = true
  · have hx : atomX gr (rest s i) = gr (rest s i) := by unfold atomX; rw [if_pos hv]
    rw [hx]
    rcases hq2 : gr (rest s i) with d | ⟨p, n⟩
    · go_enter Tryz.func114, Tryz.ntmps114
      go_wp2_with (first | (go_at_call 106; (with_reducible refine (sees_lit s 40 40 rfl i o _ bp _ hP hii _ hv).mono ?_); rintro e w1 ⟨rfl, hq⟩; replace hP := PB.quiet hP hq; replace hG := World.grownBy.trans hG (go_of_quiet hq); replace hB := Box.keep hB (go_of_quiet hq) hne) | (go_at_call 118; (with_reducible refine (hgr i _ (hX hG hP) hv).mono ?_); rw [hq2]; rintro e w2 ⟨rfl, hge⟩))
      exact ⟨rfl, rfl, hg0.trans (hG.trans hge)⟩
    · go_enter Tryz.func114, Tryz.ntmps114
      go_wp2_with (first | (go_at_call 106; (with_reducible refine (sees_lit s 40 40 rfl i o _ bp _ hP hii _ hv).mono ?_); rintro e w1 ⟨rfl, hq⟩; replace hP := PB.quiet hP hq; replace hG := World.grownBy.trans hG (go_of_quiet hq); replace hB := Box.keep hB (go_of_quiet hq) hne) | (go_at_call 118; (with_reducible refine (hgr i _ (hX hG hP) hv).mono ?_); rw [hq2]; rintro e w2 ⟨a2, c2, rfl, hk2, hp⟩; have hsz := World.grownBy.size hG; replace hP := hp.2; replace hG := World.grownBy.trans hG hp.1; replace hB := Box.keep hB hp.1 hne; obtain ⟨x0, x1, x2, x3, x4, x5, x6, x7⟩ := Box.cells hB; obtain ⟨y0, y1, y2, y3, y4, y5, y6, y7⟩ := Box.frees hB))
      have h7 : (w.alloc (.cells #[.int .i64 0, .int .u64 0, .int .u64 0, .int .u64 0, .int .u64 0, .int .i64 0, .int .i64 0, .slice none 0 0] 28)).heap.size = w.heap.size + 1 := by simp
      exact bodyPost_ret (v := (.agg #[.int .i64 p.op, .int .u64 (wd p.set 0), .int .u64 (wd p.set 1), .int .u64 (wd p.set 2), .int .u64 (wd p.set 3), .int .i64 p.lo, .int .i64 p.hi, .slice a2 p.kids.length c2])) (by simp [results, Tryz.results114, go_sem, *]) rfl ⟨a2, c2, rfl, (hk2.set8 (by omega) _ _ _ _ _ _ _ _).mono (by omega), PS.result8 (Nat.le_refl _) hbp (hg0.trans hG) hP⟩
  · rw [Bool.not_eq_true] at hv
    have hx : atomX gr (rest s i) = leafR (rest s i) := by unfold atomX; rw [if_neg (by rw [hv]; decide)]
    rw [hx]
    by_cases h91 : seesB (rest s i) 91 = true
    · have hi1 : i + 1 ≤ s.size := seesB_lt h91
      rcases hcl : clsR (rest s (i + 1)) with d | ⟨a, n⟩
      · have hr : leafR (rest s i) = .error (d + 1) := by
          unfold leafR
          rw [if_pos h91, ← rest_drop, hcl]
        rw [hr]
        go_enter Tryz.func114, Tryz.ntmps114
        go_wp2_with (first | (go_at_call 106; (with_reducible refine (sees_lit s 40 40 rfl i o _ bp _ hP hii _ hv).mono ?_); rintro e w1 ⟨rfl, hq⟩; replace hP := PB.quiet hP hq; replace hG := World.grownBy.trans hG (go_of_quiet hq); replace hB := Box.keep hB (go_of_quiet hq) hne) | (go_at_call 97; (with_reducible refine (skip_litY s 91 91 rfl i o _ bp _ hP hii hs6 h91).mono ?_); rintro e w2 ⟨rfl, hp⟩; replace hP := hp.2; replace hG := World.grownBy.trans hG hp.1; replace hB := Box.keep hB hp.1 hne) | (go_at_call 120; (with_reducible refine (class_any s (i + 1) o _ bp _ hP hi1 hs6).mono ?_); rw [hcl]; rintro e w3 ⟨rfl, hge⟩))
        exact ⟨rfl, by rw [show i + 1 + d = i + (d + 1) from by omega], hg0.trans (hG.trans hge)⟩
      · have hr : leafR (rest s i) = .ok (setP a, n + 1) := by
          unfold leafR
          rw [if_pos h91, ← rest_drop, hcl]
        rw [hr]
        go_enter Tryz.func114, Tryz.ntmps114
        go_wp2_with (first | (go_at_call 106; (with_reducible refine (sees_lit s 40 40 rfl i o _ bp _ hP hii _ hv).mono ?_); rintro e w1 ⟨rfl, hq⟩; replace hP := PB.quiet hP hq; replace hG := World.grownBy.trans hG (go_of_quiet hq); replace hB := Box.keep hB (go_of_quiet hq) hne) | (go_at_call 97; (with_reducible refine (skip_litY s 91 91 rfl i o _ bp _ hP hii hs6 h91).mono ?_); rintro e w2 ⟨rfl, hp⟩; replace hP := hp.2; replace hG := World.grownBy.trans hG hp.1; replace hB := Box.keep hB hp.1 hne) | (go_at_call 120; (with_reducible refine (class_any s (i + 1) o _ bp _ hP hi1 hs6).mono ?_); rw [hcl]; simp only [Res, setV]; rintro e w3 ⟨rfl, hp⟩; replace hP := hp.2; replace hG := World.grownBy.trans hG hp.1; replace hB := Box.keep hB hp.1 hne) | (go_at_call 119; (with_reducible refine (set_any a _).mono ?_); rintro e w4 ⟨js, rfl, hjs, hb⟩; replace hP := PB.below hP hb; replace hG := World.grownBy.trans hG (grown_of_below hb); replace hB := Box.below hB hb; obtain ⟨a4, c4, rfl⟩ := hjs.kids.len; obtain ⟨x0, x1, x2, x3, x4, x5, x6, x7⟩ := Box.cells hB; obtain ⟨y0, y1, y2, y3, y4, y5, y6, y7⟩ := Box.frees hB))
        exact bodyPost_ret (v := (.agg #[.int .i64 (setP (a)).op, .int .u64 (wd (setP (a)).set 0), .int .u64 (wd (setP (a)).set 1), .int .u64 (wd (setP (a)).set 2), .int .u64 (wd (setP (a)).set 3), .int .i64 (setP (a)).lo, .int .i64 (setP (a)).hi, .slice a4 0 c4])) (by simp [results, Tryz.results114, go_sem, setP, Pat.op, Pat.set, Pat.lo, Pat.hi, *]) rfl ⟨a4, c4, rfl, Kids.nil _ _ _, PS.result8 (Nat.le_refl _) hbp (hg0.trans hG) (by have := hP; rwa [show i + 1 + n = i + (n + 1) from by omega] at this)⟩
    · rw [Bool.not_eq_true] at h91
      by_cases h46 : seesB (rest s i) 46 = true
      · have hr : leafR (rest s i) = .ok (setP dotS, 1) := by
          unfold leafR
          rw [if_neg (by rw [h91]; decide), if_pos h46]
        rw [hr]
        go_enter Tryz.func114, Tryz.ntmps114
        go_wp2_with (first | (go_at_call 106; (with_reducible refine (sees_lit s 40 40 rfl i o _ bp _ hP hii _ hv).mono ?_); rintro e w1 ⟨rfl, hq⟩; replace hP := PB.quiet hP hq; replace hG := World.grownBy.trans hG (go_of_quiet hq); replace hB := Box.keep hB (go_of_quiet hq) hne) | (go_at_call 97; (with_reducible refine (skip_litN s 91 91 rfl i o _ bp _ hP hii hs6 h91).mono ?_); rintro e w2 ⟨rfl, hp⟩; replace hP := hp.2; replace hG := World.grownBy.trans hG hp.1; replace hB := Box.keep hB hp.1 hne) | (go_at_call 97; (with_reducible refine (skip_litY s 46 46 rfl i o _ bp _ hP hii hs6 h46).mono ?_); rintro e w2 ⟨rfl, hp⟩; replace hP := hp.2; replace hG := World.grownBy.trans hG hp.1; replace hB := Box.keep hB hp.1 hne) | (go_at_call 30; (with_reducible refine (anyOfLine_any _).mono ?_); rintro e w3 ⟨rfl, hb⟩; replace hP := PB.below hP hb; replace hG := World.grownBy.trans hG (grown_of_below hb); replace hB := Box.below hB hb) | (go_at_call 119; (with_reducible refine (set_any dotS _).mono ?_); rintro e w4 ⟨js, rfl, hjs, hb⟩; replace hP := PB.below hP hb; replace hG := World.grownBy.trans hG (grown_of_below hb); replace hB := Box.below hB hb; obtain ⟨a4, c4, rfl⟩ := hjs.kids.len; obtain ⟨x0, x1, x2, x3, x4, x5, x6, x7⟩ := Box.cells hB; obtain ⟨y0, y1, y2, y3, y4, y5, y6, y7⟩ := Box.frees hB))
        exact bodyPost_ret (v := (.agg #[.int .i64 (setP (dotS)).op, .int .u64 (wd (setP (dotS)).set 0), .int .u64 (wd (setP (dotS)).set 1), .int .u64 (wd (setP (dotS)).set 2), .int .u64 (wd (setP (dotS)).set 3), .int .i64 (setP (dotS)).lo, .int .i64 (setP (dotS)).hi, .slice a4 0 c4])) (by simp [results, Tryz.results114, go_sem, setP, Pat.op, Pat.set, Pat.lo, Pat.hi, *]) rfl ⟨a4, c4, rfl, Kids.nil _ _ _, PS.result8 (Nat.le_refl _) hbp (hg0.trans hG) (by have := hP; rwa [show i + 1 = i + (1) from by omega] at this)⟩
      · rw [Bool.not_eq_true] at h46
        rcases hob : oneB plainB (rest s i) with _ | ⟨b, n⟩
        · have hr : leafR (rest s i) = .error 0 := by
            unfold leafR
            rw [if_neg (by rw [h91]; decide), if_neg (by rw [h46]; decide), hob]
          rw [hr]
          go_enter Tryz.func114, Tryz.ntmps114
          go_wp2_with (first | (go_at_call 106; (with_reducible refine (sees_lit s 40 40 rfl i o _ bp _ hP hii _ hv).mono ?_); rintro e w1 ⟨rfl, hq⟩; replace hP := PB.quiet hP hq; replace hG := World.grownBy.trans hG (go_of_quiet hq); replace hB := Box.keep hB (go_of_quiet hq) hne) | (go_at_call 97; (with_reducible refine (skip_litN s 91 91 rfl i o _ bp _ hP hii hs6 h91).mono ?_); rintro e w2 ⟨rfl, hp⟩; replace hP := hp.2; replace hG := World.grownBy.trans hG hp.1; replace hB := Box.keep hB hp.1 hne) | (go_at_call 97; (with_reducible refine (skip_litN s 46 46 rfl i o _ bp _ hP hii hs6 h46).mono ?_); rintro e w2 ⟨rfl, hp⟩; replace hP := hp.2; replace hG := World.grownBy.trans hG hp.1; replace hB := Box.keep hB hp.1 hne) | (go_at_call 121; (with_reducible refine (oneByte_plain_no s i o _ bp _ hP hii hob).mono ?_); rintro e w3 ⟨rfl, hge⟩))
          exact ⟨rfl, rfl, hg0.trans (hG.trans hge.1)⟩
        · have hr : leafR (rest s i) = .ok (setP (ofP (rangeP b b)), n) := by
            unfold leafR
            rw [if_neg (by rw [h91]; decide), if_neg (by rw [h46]; decide), hob]
          rw [hr]
          have hb256 := (oneB_len hob).2.2
          go_enter Tryz.func114, Tryz.ntmps114
          go_wp2_with (first | (go_at_call 106; (with_reducible refine (sees_lit s 40 40 rfl i o _ bp _ hP hii _ hv).mono ?_); rintro e w1 ⟨rfl, hq⟩; replace hP := PB.quiet hP hq; replace hG := World.grownBy.trans hG (go_of_quiet hq); replace hB := Box.keep hB (go_of_quiet hq) hne) | (go_at_call 97; (with_reducible refine (skip_litN s 91 91 rfl i o _ bp _ hP hii hs6 h91).mono ?_); rintro e w2 ⟨rfl, hp⟩; replace hP := hp.2; replace hG := World.grownBy.trans hG hp.1; replace hB := Box.keep hB hp.1 hne) | (go_at_call 97; (with_reducible refine (skip_litN s 46 46 rfl i o _ bp _ hP hii hs6 h46).mono ?_); rintro e w2 ⟨rfl, hp⟩; replace hP := hp.2; replace hG := World.grownBy.trans hG hp.1; replace hB := Box.keep hB hp.1 hne) | (go_at_call 121; (with_reducible refine (oneByte_plain s i o _ bp _ hP hii hs6 b n hob).mono ?_); rintro e w3 ⟨rfl, hp⟩; replace hP := hp.2; replace hG := World.grownBy.trans hG hp.1; replace hB := Box.keep hB hp.1 hne) | (go_at_call 122; (with_reducible refine (range_any b b hb256 hb256 _).mono ?_); rintro e w3 ⟨rfl, hb⟩; replace hP := PB.below hP hb; replace hG := World.grownBy.trans hG (grown_of_below hb); replace hB := Box.below hB hb) | (go_at_call 119; (with_reducible refine (set_any (ofP (rangeP b b)) _).mono ?_); rintro e w4 ⟨js, rfl, hjs, hb⟩; replace hP := PB.below hP hb; replace hG := World.grownBy.trans hG (grown_of_below hb); replace hB := Box.below hB hb; obtain ⟨a4, c4, rfl⟩ := hjs.kids.len; obtain ⟨x0, x1, x2, x3, x4, x5, x6, x7⟩ := Box.cells hB; obtain ⟨y0, y1, y2, y3, y4, y5, y6, y7⟩ := Box.frees hB))
          exact bodyPost_ret (v := (.agg #[.int .i64 (setP (ofP (rangeP b b))).op, .int .u64 (wd (setP (ofP (rangeP b b))).set 0), .int .u64 (wd (setP (ofP (rangeP b b))).set 1), .int .u64 (wd (setP (ofP (rangeP b b))).set 2), .int .u64 (wd (setP (ofP (rangeP b b))).set 3), .int .i64 (setP (ofP (rangeP b b))).lo, .int .i64 (setP (ofP (rangeP b b))).hi, .slice a4 0 c4])) (by simp [results, Tryz.results114, go_sem, setP, Pat.op, Pat.set, Pat.lo, Pat.hi, *]) rfl ⟨a4, c4, rfl, Kids.nil _ _ _, PS.result8 (Nat.le_refl _) hbp (hg0.trans hG) (by have := hP; rwa [show i + n = i + (n) from by omega] at this)⟩
end Go.Proofs.YtkpfpegjapddfaaGreatDoor
set_option maxRecDepth 20000
namespace Go.Proofs.YtkpfpegjapddfaaGreatDoor
open Go.RowKit

theorem shiftR_ok {α : Type} {d n : Nat} {v : α} {r : Except Nat (α × Nat)} (h : shiftR d r = .ok (v, n)) : ∃ k, r = .ok (v, k) ∧ n = d + k := by
  rcases r with e | ⟨u, k⟩
  · simp [shiftR] at h
  · simp [shiftR] at h
    obtain ⟨rfl, rfl⟩ := h
    exact ⟨k, rfl, rfl⟩
theorem classR_le : ∀ (f : Nat) (l : List UInt8) (a b : BitVec 256) (k : Nat), classR f l a = .ok (b, k) → k ≤ l.length
  | 0, _, _, _, _, h => by simp [classR] at h
  | f + 1, l, a, b, k, h => by
    by_cases hs : seesB l 93 = true
    · rw [classR_end hs] at h
      have := sees_len hs
      simp at h
      omega
    · rw [Bool.not_eq_true] at hs
      rcases he : elemR l with d | ⟨p, n⟩
      · rw [classR_bad hs he] at h
        simp at h
      · rw [classR_go hs he] at h
        obtain ⟨m, h1, rfl⟩ := shiftR_ok h
        have h2 := classR_le f _ _ _ _ h1
        have h3 := elemR_le he
        rw [List.length_drop] at h2
        omega
theorem clsR_le {l : List UInt8} {b : BitVec 256} {k : Nat} (h : clsR l = .ok (b, k)) : k ≤ l.length := by
  unfold clsR at h
  split at h
  · rename_i hs
    have h0 := sees_len hs
    split at h
    · simp at h
    · rename_i a n hc
      have := classR_le _ _ _ _ _ hc
      rw [List.length_drop] at this
      simp at h
      omega
  · exact classR_le _ _ _ _ _ h
theorem leafR_le {l : List UInt8} {p : Pat} {n : Nat} (h : leafR l = .ok (p, n)) : 0 < n ∧ n ≤ l.length := by
  unfold leafR at h
  split at h
  · rename_i hs
    have h0 := sees_len hs
    split at h
    · simp at h
    · rename_i a k hc
      have := clsR_le hc
      rw [List.length_drop] at this
      simp at h
      omega
  · split at h
    · rename_i hs
      have h0 := sees_len hs
      simp at h
      omega
    · split at h
      · simp at h
      · rename_i b k hb
        have := oneB_len hb
        simp at h
        omega
theorem repLoop_le : ∀ (f : Nat) (l : List UInt8) (p q : Pat) (k : Nat), repLoop f l p = .ok (q, k) → k ≤ l.length
  | 0, _, _, _, _, h => by
    simp [repLoop] at h
    omega
  | f + 1, l, p, q, k, h => by
    rcases hr : repR l with d | ⟨_ | ⟨x, y⟩, n⟩
    · rw [repLoop_bad hr] at h
      simp at h
    · rw [repLoop_end hr] at h
      simp at h
      omega
    · rw [repLoop_go hr] at h
      obtain ⟨m, h1, rfl⟩ := shiftR_ok h
      have h2 := repLoop_le f _ _ _ _ h1
      have h3 := (repR_le hr).1
      rw [List.length_drop] at h2
      omega
theorem notsN_le (l : List UInt8) : notsN l ≤ l.length := (List.takeWhile_prefix tilC).length_le
theorem itemR_le {atom : List UInt8 → Except Nat (Pat × Nat)} (ha : ∀ l p n, atom l = .ok (p, n) → 0 < n ∧ n ≤ l.length) {l : List UInt8} {p : Pat} {n : Nat} (h : itemR atom l = .ok (p, n)) : 0 < n ∧ n ≤ l.length := by
  unfold itemR at h
  split at h
  · simp at h
  · rename_i q k hq
    have h1 := ha _ _ _ hq
    have h0 := notsN_le l
    rw [List.length_drop] at h1
    rcases hr : shiftR (notsN l + k) (repLoop (l.length + 1) (l.drop (notsN l + k)) q) with d | ⟨u, m⟩
    · rw [hr] at h
      simp [mapR] at h
    · rw [hr] at h
      simp [mapR] at h
      obtain ⟨m2, h2, h3⟩ := shiftR_ok hr
      have h4 := repLoop_le _ _ _ _ _ h2
      rw [List.length_drop] at h4
      omega
theorem seqLoop_le {item : List UInt8 → Except Nat (Pat × Nat)} (hi : ∀ l p n, item l = .ok (p, n) → 0 < n ∧ n ≤ l.length) : ∀ (f : Nat) (l : List UInt8) (ps : List Pat) (k : Nat), seqLoop item f l = .ok (ps, k) → k ≤ l.length
  | 0, _, _, _, h => by
    simp [seqLoop] at h
    omega
  | f + 1, l, ps, k, h => by
    unfold seqLoop at h
    split at h
    · simp at h
      omega
    · split at h
      · simp at h
      · rename_i p n hp
        have h1 := hi _ _ _ hp
        split at h
        · simp at h
        · rename_i qs m hq
          have h2 := seqLoop_le hi f _ _ _ hq
          rw [List.length_drop] at h2
          simp at h
          omega
theorem jr_ok {op : Int} {r : Except Nat (List Pat × Nat)} {p : Pat} {n : Nat} (h : jr op r = .ok (p, n)) : ∃ ps, r = .ok (ps, n) ∧ p = joinP op ps := by
  rcases r with e | ⟨ps, k⟩
  · simp [jr] at h
  · simp [jr] at h
    exact ⟨ps, by rw [h.2], h.1.symm⟩
theorem seqR_le {item : List UInt8 → Except Nat (Pat × Nat)} (hi : ∀ l p n, item l = .ok (p, n) → 0 < n ∧ n ≤ l.length) {l : List UInt8} {p : Pat} {n : Nat} (h : seqR item l = .ok (p, n)) : n ≤ l.length := by
  obtain ⟨ps, h1, _⟩ := jr_ok h
  exact seqLoop_le hi _ _ _ _ h1
theorem rowLoop_le {part : List UInt8 → Except Nat (Pat × Nat)} {sep : Nat} (hi : ∀ l p n, part l = .ok (p, n) → n ≤ l.length) : ∀ (f : Nat) (l : List UInt8) (ps : List Pat) (k : Nat), rowLoop part sep f l = .ok (ps, k) → k ≤ l.length
  | 0, _, _, _, h => by
    simp [rowLoop] at h
    omega
  | f + 1, l, ps, k, h => by
    unfold rowLoop at h
    split at h
    · rename_i hs
      have h0 := sees_len hs
      split at h
      · simp at h
      · rename_i p n hp
        have h1 := hi _ _ _ hp
        rw [List.length_drop] at h1
        split at h
        · simp at h
        · rename_i qs m hq
          have h2 := rowLoop_le hi f _ _ _ hq
          rw [List.length_drop] at h2
          simp at h
          omega
    · simp at h
      omega
theorem rowR_le {part : List UInt8 → Except Nat (Pat × Nat)} {op : Int} {sep : Nat} (hi : ∀ l p n, part l = .ok (p, n) → n ≤ l.length) {l : List UInt8} {p : Pat} {n : Nat} (h : rowR part op sep l = .ok (p, n)) : n ≤ l.length := by
  unfold rowR at h
  split at h
  · simp at h
  · rename_i q k hq
    have h1 := hi _ _ _ hq
    split at h
    · simp at h
    · rename_i qs m hr
      have h2 := rowLoop_le hi _ _ _ _ hr
      rw [List.length_drop] at h2
      simp at h
      omega
theorem patR_le {atom : List UInt8 → Except Nat (Pat × Nat)} (ha : ∀ l p n, atom l = .ok (p, n) → 0 < n ∧ n ≤ l.length) {l : List UInt8} {p : Pat} {n : Nat} (h : patR atom l = .ok (p, n)) : n ≤ l.length :=
  rowR_le (fun _ _ _ h => rowR_le (fun _ _ _ h => seqR_le (fun _ _ _ h => itemR_le ha h) h) h) h
theorem atomR_le : ∀ (d : Nat) (l : List UInt8) (p : Pat) (n : Nat), atomR d l = .ok (p, n) → 0 < n ∧ n ≤ l.length
  | 0, l, p, n, h => by
    unfold atomR at h
    split at h
    · simp at h
    · exact leafR_le h
  | d + 1, l, p, n, h => by
    unfold atomR at h
    split at h
    · unfold groupR at h
      split at h
      · simp at h
      · split at h
        · rename_i hs
          have := sees_drop hs
          simp at h
          omega
        · simp at h
    · exact leafR_le h
set_option maxHeartbeats 1000000 in
theorem conjunction_any (s : ByteArray) (bp g : Nat) (hs : s.size ≤ 20000) (hgb : g ≠ bp) (hlo : Lo bp) (part : List UInt8 → Except Nat (Pat × Nat)) (o : Nat)
    (hle : ∀ l p n, part l = .ok (p, n) → n ≤ l.length)
    (hpart : ∀ i w, PX w bp s i o g → Calls Tryz.prog 99 #[.pointer (some ⟨bp, 0, none⟩)] w fun e w' => ResP (part (rest s i)) s i o (.map (some g)) bp w e w')
    (i : Nat) (w : World) (h : PX w bp s i o g) :
    Calls Tryz.prog 91 #[.pointer (some ⟨bp, 0, none⟩)] w fun e w' => ResP (rowR part 4 38 (rest s i)) s i o (.map (some g)) bp w e w' := by
  have hbp := h.1.lt
  have hb0 : Below w.heap.size w (w.alloc (.cells #[.int .i64 0, .int .u64 0, .int .u64 0, .int .u64 0, .int .u64 0, .int .i64 0, .int .i64 0, .slice none 0 0] 28)) := (Below.refl _ _).alloc (Nat.le_refl _) _
  have hg0 : w.grownBy (w.alloc (.cells #[.int .i64 0, .int .u64 0, .int .u64 0, .int .u64 0, .int .u64 0, .int .i64 0, .int .i64 0, .slice none 0 0] 28)) (some bp) := grown_of_below hb0
  have h0 : PX (w.alloc (.cells #[.int .i64 0, .int .u64 0, .int .u64 0, .int .u64 0, .int .u64 0, .int .i64 0, .int .i64 0, .slice none 0 0] 28)) bp s i o g := h.next hg0 (h.1.alloc (.cells #[.int .i64 0, .int .u64 0, .int .u64 0, .int .u64 0, .int .u64 0, .int .i64 0, .int .i64 0, .slice none 0 0] 28)) hgb hlo h.2.2.2
  have hne : w.heap.size ≠ bp := by omega
  have hB : Box (w.alloc (.cells #[.int .i64 0, .int .u64 0, .int .u64 0, .int .u64 0, .int .u64 0, .int .i64 0, .int .i64 0, .slice none 0 0] 28)) w.heap.size z8 := Box.new w _ rfl
  have h7 : (w.alloc (.cells #[.int .i64 0, .int .u64 0, .int .u64 0, .int .u64 0, .int .u64 0, .int .i64 0, .int .i64 0, .slice none 0 0] 28)).heap.size = w.heap.size + 1 := by simp
  rcases hq : rowR part 4 38 (rest s i) with d | ⟨p, n⟩
  · go_enter Tryz.func91, Tryz.ntmps91
    go_wp2_with (first | (go_at_call 90; refine (row_sequence s bp g hs hgb hlo part o hle hpart 4 38 i _ h0).mono ?_; rw [hq]; rintro e w2 ⟨rfl, hge⟩))
    exact ⟨rfl, rfl, hg0.trans hge⟩
  · go_enter Tryz.func91, Tryz.ntmps91
    go_wp2_with (first | (go_at_call 90; refine (row_sequence s bp g hs hgb hlo part o hle hpart 4 38 i _ h0).mono ?_; rw [hq]; rintro e w2 ⟨a2, c2, rfl, hk2, hp⟩; have hB2 := Box.keep hB hp.1 hne; obtain ⟨x0, x1, x2, x3, x4, x5, x6, x7⟩ := Box.cells hB2; obtain ⟨y0, y1, y2, y3, y4, y5, y6, y7⟩ := Box.frees hB2))
    exact bodyPost_ret (v := (.agg #[.int .i64 p.op, .int .u64 (wd p.set 0), .int .u64 (wd p.set 1), .int .u64 (wd p.set 2), .int .u64 (wd p.set 3), .int .i64 p.lo, .int .i64 p.hi, .slice a2 p.kids.length c2])) (by simp [results, Tryz.results91, go_sem, *]) rfl ⟨a2, c2, rfl, (hk2.set8 (by omega) _ _ _ _ _ _ _ _).mono (by omega), PS.result8 (Nat.le_refl _) hbp (hg0.trans hp.1) hp.2⟩
set_option maxHeartbeats 1000000 in
theorem pattern_any (s : ByteArray) (bp g : Nat) (hs : s.size ≤ 20000) (hgb : g ≠ bp) (hlo : Lo bp) (part : List UInt8 → Except Nat (Pat × Nat)) (o : Nat)
    (hle : ∀ l p n, part l = .ok (p, n) → n ≤ l.length)
    (hpart : ∀ i w, PX w bp s i o g → Calls Tryz.prog 91 #[.pointer (some ⟨bp, 0, none⟩)] w fun e w' => ResP (part (rest s i)) s i o (.map (some g)) bp w e w')
    (i : Nat) (w : World) (h : PX w bp s i o g) :
    Calls Tryz.prog 78 #[.pointer (some ⟨bp, 0, none⟩)] w fun e w' => ResP (rowR part 2 124 (rest s i)) s i o (.map (some g)) bp w e w' := by
  have hbp := h.1.lt
  have hb0 : Below w.heap.size w (w.alloc (.cells #[.int .i64 0, .int .u64 0, .int .u64 0, .int .u64 0, .int .u64 0, .int .i64 0, .int .i64 0, .slice none 0 0] 28)) := (Below.refl _ _).alloc (Nat.le_refl _) _
  have hg0 : w.grownBy (w.alloc (.cells #[.int .i64 0, .int .u64 0, .int .u64 0, .int .u64 0, .int .u64 0, .int .i64 0, .int .i64 0, .slice none 0 0] 28)) (some bp) := grown_of_below hb0
  have h0 : PX (w.alloc (.cells #[.int .i64 0, .int .u64 0, .int .u64 0, .int .u64 0, .int .u64 0, .int .i64 0, .int .i64 0, .slice none 0 0] 28)) bp s i o g := h.next hg0 (h.1.alloc (.cells #[.int .i64 0, .int .u64 0, .int .u64 0, .int .u64 0, .int .u64 0, .int .i64 0, .int .i64 0, .slice none 0 0] 28)) hgb hlo h.2.2.2
  have hne : w.heap.size ≠ bp := by omega
  have hB : Box (w.alloc (.cells #[.int .i64 0, .int .u64 0, .int .u64 0, .int .u64 0, .int .u64 0, .int .i64 0, .int .i64 0, .slice none 0 0] 28)) w.heap.size z8 := Box.new w _ rfl
  have h7 : (w.alloc (.cells #[.int .i64 0, .int .u64 0, .int .u64 0, .int .u64 0, .int .u64 0, .int .i64 0, .int .i64 0, .slice none 0 0] 28)).heap.size = w.heap.size + 1 := by simp
  rcases hq : rowR part 2 124 (rest s i) with d | ⟨p, n⟩
  · go_enter Tryz.func78, Tryz.ntmps78
    go_wp2_with (first | (go_at_call 90; refine (row_conjunction s bp g hs hgb hlo part o hle hpart 2 124 i _ h0).mono ?_; rw [hq]; rintro e w2 ⟨rfl, hge⟩))
    exact ⟨rfl, rfl, hg0.trans hge⟩
  · go_enter Tryz.func78, Tryz.ntmps78
    go_wp2_with (first | (go_at_call 90; refine (row_conjunction s bp g hs hgb hlo part o hle hpart 2 124 i _ h0).mono ?_; rw [hq]; rintro e w2 ⟨a2, c2, rfl, hk2, hp⟩; have hB2 := Box.keep hB hp.1 hne; obtain ⟨x0, x1, x2, x3, x4, x5, x6, x7⟩ := Box.cells hB2; obtain ⟨y0, y1, y2, y3, y4, y5, y6, y7⟩ := Box.frees hB2))
    exact bodyPost_ret (v := (.agg #[.int .i64 p.op, .int .u64 (wd p.set 0), .int .u64 (wd p.set 1), .int .u64 (wd p.set 2), .int .u64 (wd p.set 3), .int .i64 p.lo, .int .i64 p.hi, .slice a2 p.kids.length c2])) (by simp [results, Tryz.results78, go_sem, *]) rfl ⟨a2, c2, rfl, (hk2.set8 (by omega) _ _ _ _ _ _ _ _).mono (by omega), PS.result8 (Nat.le_refl _) hbp (hg0.trans hp.1) hp.2⟩
set_option maxHeartbeats 1000000 in
theorem group_full (s : ByteArray) (bp g i : Nat) (w : World) (h : PX w bp s i 32 g) :
    Calls Tryz.prog 118 #[.pointer (some ⟨bp, 0, none⟩)] w fun e w' => ResP (.error 0) s i 32 (.map (some g)) bp w e w' := by
  have hg0 : w.grownBy (w.alloc (.cells #[.int .i64 0, .int .u64 0, .int .u64 0, .int .u64 0, .int .u64 0, .int .i64 0, .int .i64 0, .slice none 0 0] 28)) (some bp) := grown_of_below ((Below.refl _ _).alloc (Nat.le_refl _) _)
  obtain ⟨p0, p1, p2, p3⟩ := (h.1.alloc (.cells #[.int .i64 0, .int .u64 0, .int .u64 0, .int .u64 0, .int .u64 0, .int .i64 0, .int .i64 0, .slice none 0 0] 28)).cells
  go_enter Tryz.func118, Tryz.ntmps118
  go_wp2_with (first | (go_at_call 80; refine (fail_any i _).mono ?_; rintro e w2 ⟨rfl, rfl⟩))
  exact ⟨rfl, rfl, hg0⟩
theorem parser_any (s : ByteArray) (bp g : Nat) (hs : s.size ≤ 20000) (hgb : g ≠ bp) (hlo : Lo bp) (hf : Few s) : ∀ (d o : Nat), o + d = 32 →
    (∀ i w, PX w bp s i o g → Calls Tryz.prog 114 #[.pointer (some ⟨bp, 0, none⟩)] w fun e w' => ResP (atomR d (rest s i)) s i o (.map (some g)) bp w e w') ∧
    (∀ i w, PX w bp s i o g → Calls Tryz.prog 78 #[.pointer (some ⟨bp, 0, none⟩)] w fun e w' => ResP (patR (atomR d) (rest s i)) s i o (.map (some g)) bp w e w') := by
  have step : ∀ (d o : Nat), (∀ i w, PX w bp s i o g → Calls Tryz.prog 114 #[.pointer (some ⟨bp, 0, none⟩)] w fun e w' => ResP (atomR d (rest s i)) s i o (.map (some g)) bp w e w') →
      (∀ i w, PX w bp s i o g → Calls Tryz.prog 78 #[.pointer (some ⟨bp, 0, none⟩)] w fun e w' => ResP (patR (atomR d) (rest s i)) s i o (.map (some g)) bp w e w') := by
    intro d o ha
    have hi := item_any s bp g hs hgb hlo hf (atomR d) o (fun l p n h => (atomR_le d l p n h).2) ha
    have hsq := sequence_any s bp g hs hgb hlo (itemR (atomR d)) o (fun _ _ _ h => itemR_le (atomR_le d) h) hi
    have hc := conjunction_any s bp g hs hgb hlo (seqR (itemR (atomR d))) o (fun _ _ _ h => seqR_le (fun _ _ _ h => itemR_le (atomR_le d) h) h) hsq
    exact pattern_any s bp g hs hgb hlo (rowR (seqR (itemR (atomR d))) 4 38) o (fun _ _ _ h => rowR_le (fun _ _ _ h => seqR_le (fun _ _ _ h => itemR_le (atomR_le d) h) h) h) hc
  intro d
  induction d with
  | zero =>
    intro o ho
    obtain rfl : o = 32 := by omega
    have ha := atomX_any s bp g hs hgb hlo (fun _ => .error 0) 32 (fun i w h _ => group_full s bp g i w h)
    exact ⟨ha, step 0 32 ha⟩
  | succ d ih =>
    intro o ho
    have hp := (ih (o + 1) (by omega)).2
    have ha := atomX_any s bp g hs hgb hlo (groupR (patR (atomR d))) o (fun i w h hv => group_any s bp g hs hgb hlo (patR (atomR d)) o (by omega) (fun _ _ _ h => patR_le (atomR_le d) h) hp i w h hv)
    exact ⟨ha, step (d + 1) o ha⟩
end Go.Proofs.YtkpfpegjapddfaaGreatDoor
set_option maxRecDepth 20000
namespace Go.Proofs.YtkpfpegjapddfaaGreatDoor
open Go.RowKit


/-- A whole text's pattern, or where it fails. -/
def wholeR (s : ByteArray) : Except Nat Pat := match patR (atomR 32) (rest s 0) with
  | .error d => .error d
  | .ok (p, n) => if n = s.size then (if p.fit 1 = true then .ok p else .error s.size) else .error n
def WholePost (s : ByteArray) (bp : Nat) (w : World) (e : Ending) (w' : World) : Prop := match wholeR s with
  | .ok p => ∃ a c, e = .returned (.agg #[.int .i64 p.op, .int .u64 (wd p.set 0), .int .u64 (wd p.set 1), .int .u64 (wd p.set 2), .int .u64 (wd p.set 3), .int .i64 p.lo, .int .i64 p.hi, .slice a p.kids.length c]) ∧ KidsN w' w.heap.size p.kids (.slice a p.kids.length c) ∧ w.grownBy w' (some bp)
  | .error d => e = .panicked (probV d) ∧ w.grownBy w' (some bp)
set_option maxHeartbeats 1000000 in
theorem whole_any (s : ByteArray) (bp g : Nat) (hs : s.size ≤ 20000) (hgb : g ≠ bp) (hlo : Lo bp) (hf : Few s) (hsz : ∀ p n, patR (atomR 32) (rest s 0) = .ok (p, n) → p.size < 99999) (w : World) (h : PX w bp s 0 0 g) :
    Calls Tryz.prog 67 #[.pointer (some ⟨bp, 0, none⟩)] w fun e w' => WholePost s bp w e w' := by
  have hbp := h.1.lt
  have hb0 : Below w.heap.size w (w.alloc (.cells #[.int .i64 0, .int .u64 0, .int .u64 0, .int .u64 0, .int .u64 0, .int .i64 0, .int .i64 0, .slice none 0 0] 28)) := (Below.refl _ _).alloc (Nat.le_refl _) _
  have hg0 : w.grownBy (w.alloc (.cells #[.int .i64 0, .int .u64 0, .int .u64 0, .int .u64 0, .int .u64 0, .int .i64 0, .int .i64 0, .slice none 0 0] 28)) (some bp) := grown_of_below hb0
  have h0 : PX (w.alloc (.cells #[.int .i64 0, .int .u64 0, .int .u64 0, .int .u64 0, .int .u64 0, .int .i64 0, .int .i64 0, .slice none 0 0] 28)) bp s 0 0 g := h.next hg0 (h.1.alloc (.cells #[.int .i64 0, .int .u64 0, .int .u64 0, .int .u64 0, .int .u64 0, .int .i64 0, .int .i64 0, .slice none 0 0] 28)) hgb hlo h.2.2.2
  have hne : w.heap.size ≠ bp := by omega
  have hB : Box (w.alloc (.cells #[.int .i64 0, .int .u64 0, .int .u64 0, .int .u64 0, .int .u64 0, .int .i64 0, .int .i64 0, .slice none 0 0] 28)) w.heap.size z8 := Box.new w _ rfl
  have h7 : (w.alloc (.cells #[.int .i64 0, .int .u64 0, .int .u64 0, .int .u64 0, .int .u64 0, .int .i64 0, .int .i64 0, .slice none 0 0] 28)).heap.size = w.heap.size + 1 := by simp
  have hpat := (parser_any s bp g hs hgb hlo hf 32 0 rfl).2
  rcases hq : patR (atomR 32) (rest s 0) with d | ⟨p, n⟩
  · have hr : wholeR s = .error d := by unfold wholeR; rw [hq]
    unfold WholePost
    rw [hr]
    go_enter Tryz.func67, Tryz.ntmps67
    go_wp2_with (first | (go_at_call 78; refine (hpat 0 _ h0).mono ?_; rw [hq]; rintro e w2 ⟨rfl, h2⟩))
    exact ⟨rfl, rfl, hg0.trans h2⟩
  · have hn := rest_le (patR_le (atomR_le 32) hq) h.2.2.2
    rw [Nat.zero_add] at hn
    by_cases hne2 : n = s.size
    · have he : (rest s n).isEmpty = true := by rw [rest_end (by omega)]; rfl
      by_cases hfit : p.fit 1 = true
      · have hr : wholeR s = .ok p := by
          unfold wholeR
          rw [hq]
          simp only
          rw [if_pos hne2, if_pos hfit]
        unfold WholePost
        rw [hr]
        go_enter Tryz.func67, Tryz.ntmps67
        go_wp2_with (first | (go_at_call 78; refine (hpat 0 _ h0).mono ?_; rw [hq]; rintro e w2 ⟨a2, c2, rfl, hk2, h2⟩; have hp2 := h2.2; rw [Nat.zero_add] at hp2; have hal : Below w2.heap.size w2 (w2.alloc (.cells #[.int .i64 p.op, .int .u64 (wd p.set 0), .int .u64 (wd p.set 1), .int .u64 (wd p.set 2), .int .u64 (wd p.set 3), .int .i64 p.lo, .int .i64 p.hi, .slice a2 p.kids.length c2] 28)) := (Below.refl _ _).alloc (Nat.le_refl _) _; have hn2 := Box.new w2 #[.int .i64 p.op, .int .u64 (wd p.set 0), .int .u64 (wd p.set 1), .int .u64 (wd p.set 2), .int .u64 (wd p.set 3), .int .i64 p.lo, .int .i64 p.hi, .slice a2 p.kids.length c2] rfl; have hr2 := Box.below (Box.keep hB h2.1 hne) hal; have hp3 := hp2.below hal; have hk3 : KidsN _ (w.heap.size + 1) p.kids (.slice a2 p.kids.length c2) := (hk2.below hal).mono (by rw [h7]; exact Nat.le_refl _)) | (go_at_call 79; refine (atEnd_any s n 0 _ bp _ hp3 hn true he).mono ?_; rintro e w3 ⟨rfl, hq3⟩; have hp4 := PB.quiet hp3 hq3; have hn4 := Box.keep (bp := bp) hn2 (go_of_quiet hq3) (by have := h2.2.lt; omega); have hr4 := Box.keep hr2 (go_of_quiet hq3) hne; obtain ⟨m0, m1, m2, m3, m4, m5, m6, m7⟩ := Box.cells hn4; obtain ⟨q0, q1, q2, q3⟩ := hp4.cells) | (go_at_call 81; refine (check_any p _ _ (hsz p n hq) ((hk3.keepP (bp := bp) (go_of_quiet hq3) (Nat.lt_succ_of_lt hbp)).kids)).mono ?_; rw [hfit]; rintro e w5 ⟨rfl, hb5⟩; obtain ⟨q0, q1, q2, q3⟩ := (hp4.below hb5).cells; have hn5 := Box.below hn4 hb5; have hr5 := Box.below hr4 hb5; obtain ⟨m0, m1, m2, m3, m4, m5, m6, m7⟩ := Box.cells hn5; obtain ⟨x0, x1, x2, x3, x4, x5, x6, x7⟩ := Box.cells hr5; obtain ⟨y0, y1, y2, y3, y4, y5, y6, y7⟩ := Box.frees hr5))
        exact bodyPost_ret (v := (.agg #[.int .i64 p.op, .int .u64 (wd p.set 0), .int .u64 (wd p.set 1), .int .u64 (wd p.set 2), .int .u64 (wd p.set 3), .int .i64 p.lo, .int .i64 p.hi, .slice a2 p.kids.length c2])) (by simp [results, Tryz.results67, go_sem, *]) rfl ⟨a2, c2, rfl, (((hk3.keepP (bp := bp) (go_of_quiet hq3) (Nat.lt_succ_of_lt hbp)).below hb5).set8 (Nat.lt_succ_self _) _ _ _ _ _ _ _ _).mono (Nat.le_succ _), grow_own ((((hg0.trans h2.1).trans (grown_of_below hal)).trans (go_of_quiet hq3)).trans (grown_of_below hb5)) (set8_go _ w.heap.size _ _ _ _ _ _ _ _) (fun c e => by simp at e; omega)⟩
      · have hr : wholeR s = .error s.size := by
          unfold wholeR
          rw [hq]
          simp only
          rw [if_pos hne2, if_neg hfit]
        rw [Bool.not_eq_true] at hfit
        unfold WholePost
        rw [hr]
        go_enter Tryz.func67, Tryz.ntmps67
        go_wp2_with (first | (go_at_call 78; refine (hpat 0 _ h0).mono ?_; rw [hq]; rintro e w2 ⟨a2, c2, rfl, hk2, h2⟩; have hp2 := h2.2; rw [Nat.zero_add] at hp2; have hal : Below w2.heap.size w2 (w2.alloc (.cells #[.int .i64 p.op, .int .u64 (wd p.set 0), .int .u64 (wd p.set 1), .int .u64 (wd p.set 2), .int .u64 (wd p.set 3), .int .i64 p.lo, .int .i64 p.hi, .slice a2 p.kids.length c2] 28)) := (Below.refl _ _).alloc (Nat.le_refl _) _; have hn2 := Box.new w2 #[.int .i64 p.op, .int .u64 (wd p.set 0), .int .u64 (wd p.set 1), .int .u64 (wd p.set 2), .int .u64 (wd p.set 3), .int .i64 p.lo, .int .i64 p.hi, .slice a2 p.kids.length c2] rfl; have hr2 := Box.below (Box.keep hB h2.1 hne) hal; have hp3 := hp2.below hal; have hk3 : KidsN _ (w.heap.size + 1) p.kids (.slice a2 p.kids.length c2) := (hk2.below hal).mono (by rw [h7]; exact Nat.le_refl _)) | (go_at_call 79; refine (atEnd_any s n 0 _ bp _ hp3 hn true he).mono ?_; rintro e w3 ⟨rfl, hq3⟩; have hp4 := PB.quiet hp3 hq3; have hn4 := Box.keep (bp := bp) hn2 (go_of_quiet hq3) (by have := h2.2.lt; omega); have hr4 := Box.keep hr2 (go_of_quiet hq3) hne; obtain ⟨m0, m1, m2, m3, m4, m5, m6, m7⟩ := Box.cells hn4; obtain ⟨q0, q1, q2, q3⟩ := hp4.cells) | (go_at_call 81; refine (check_any p _ _ (hsz p n hq) ((hk3.keepP (bp := bp) (go_of_quiet hq3) (Nat.lt_succ_of_lt hbp)).kids)).mono ?_; rw [hfit]; rintro e w5 ⟨rfl, hb5⟩; obtain ⟨q0, q1, q2, q3⟩ := (hp4.below hb5).cells; have hn5 := Box.below hn4 hb5; have hr5 := Box.below hr4 hb5; obtain ⟨m0, m1, m2, m3, m4, m5, m6, m7⟩ := Box.cells hn5; obtain ⟨x0, x1, x2, x3, x4, x5, x6, x7⟩ := Box.cells hr5; obtain ⟨y0, y1, y2, y3, y4, y5, y6, y7⟩ := Box.frees hr5) | (go_at_call 80; refine (fail_any _ _).mono ?_; rintro e w6 ⟨rfl, rfl⟩))
        exact ⟨rfl, rfl, (((hg0.trans h2.1).trans (grown_of_below hal)).trans (go_of_quiet hq3)).trans (grown_of_below hb5)⟩
    · have he : (rest s n).isEmpty = false := by rw [rest_cons (by omega)]; rfl
      have hr : wholeR s = .error n := by
        unfold wholeR
        rw [hq]
        simp only
        rw [if_neg hne2]
      unfold WholePost
      rw [hr]
      go_enter Tryz.func67, Tryz.ntmps67
      go_wp2_with (first | (go_at_call 78; refine (hpat 0 _ h0).mono ?_; rw [hq]; rintro e w2 ⟨a2, c2, rfl, hk2, h2⟩; have hp2 := h2.2; rw [Nat.zero_add] at hp2; have hal : Below w2.heap.size w2 (w2.alloc (.cells #[.int .i64 p.op, .int .u64 (wd p.set 0), .int .u64 (wd p.set 1), .int .u64 (wd p.set 2), .int .u64 (wd p.set 3), .int .i64 p.lo, .int .i64 p.hi, .slice a2 p.kids.length c2] 28)) := (Below.refl _ _).alloc (Nat.le_refl _) _; have hn2 := Box.new w2 #[.int .i64 p.op, .int .u64 (wd p.set 0), .int .u64 (wd p.set 1), .int .u64 (wd p.set 2), .int .u64 (wd p.set 3), .int .i64 p.lo, .int .i64 p.hi, .slice a2 p.kids.length c2] rfl; have hr2 := Box.below (Box.keep hB h2.1 hne) hal; have hp3 := hp2.below hal; have hk3 : KidsN _ (w.heap.size + 1) p.kids (.slice a2 p.kids.length c2) := (hk2.below hal).mono (by rw [h7]; exact Nat.le_refl _)) | (go_at_call 79; refine (atEnd_any s n 0 _ bp _ hp3 hn false he).mono ?_; rintro e w3 ⟨rfl, hq3⟩; have hp4 := PB.quiet hp3 hq3; obtain ⟨q0, q1, q2, q3⟩ := hp4.cells) | (go_at_call 80; refine (fail_any _ _).mono ?_; rintro e w6 ⟨rfl, rfl⟩))
      exact ⟨rfl, rfl, ((hg0.trans h2.1).trans (grown_of_below hal)).trans (go_of_quiet hq3)⟩
end Go.Proofs.YtkpfpegjapddfaaGreatDoor
set_option maxRecDepth 20000
namespace Go.Proofs.YtkpfpegjapddfaaGreatDoor
open Go.RowKit

theorem sz_one (op : Int) (a : BitVec 256) (lo hi : Int) (p : Pat) : (Pat.mk op a lo hi [p]).size = p.size + 1 := by
  simp [Pat.size, Pat.sizes]
  omega
theorem sz_leaf (op : Int) (a : BitVec 256) (lo hi : Int) : (Pat.mk op a lo hi []).size = 1 := by simp [Pat.size, Pat.sizes]
theorem sz_join (op : Int) (l : List Pat) : (joinP op l).size ≤ 1 + Pat.sizes l ∧ (∀ p, l = [p] → (joinP op l).size = p.size) := by
  rcases l with _ | ⟨p, _ | ⟨q, l⟩⟩
  · simp [joinP, Pat.size]
  · simp [joinP, Pat.sizes]
  · simp [joinP, Pat.size]
theorem leafR_sz {l : List UInt8} {p : Pat} {n : Nat} (h : leafR l = .ok (p, n)) : p.size = 1 := by
  unfold leafR at h
  split at h
  · split at h
    · simp at h
    · simp at h
      rw [← h.1]
      exact sz_leaf _ _ _ _
  · split at h
    · simp at h
      rw [← h.1]
      exact sz_leaf _ _ _ _
    · split at h
      · simp at h
      · simp at h
        rw [← h.1]
        exact sz_leaf _ _ _ _
theorem notP_sz : ∀ (k : Nat) (p : Pat), (notP k p).size = p.size + k
  | 0, _ => rfl
  | k + 1, p => by
    unfold notP
    rw [sz_one, notP_sz k p]
    omega
theorem repLoop_sz : ∀ (f : Nat) (l : List UInt8) (p q : Pat) (k : Nat), repLoop f l p = .ok (q, k) → q.size ≤ p.size + k
  | 0, _, _, _, _, h => by
    simp [repLoop] at h
    rw [h.1]
    omega
  | f + 1, l, p, q, k, h => by
    rcases hr : repR l with d | ⟨_ | ⟨x, y⟩, n⟩
    · rw [repLoop_bad hr] at h
      simp at h
    · rw [repLoop_end hr] at h
      simp at h
      rw [h.1]
      omega
    · rw [repLoop_go hr] at h
      obtain ⟨m, h1, rfl⟩ := shiftR_ok h
      have h2 := repLoop_sz f _ _ _ _ h1
      rw [sz_one] at h2
      have h3 := repR_le hr
      simp at h3
      omega
theorem itemR_sz {atom : List UInt8 → Except Nat (Pat × Nat)} (ha : ∀ l p n, atom l = .ok (p, n) → p.size + 1 ≤ 2 * n) {l : List UInt8} {p : Pat} {n : Nat} (h : itemR atom l = .ok (p, n)) : p.size + 1 ≤ 2 * n := by
  unfold itemR at h
  split at h
  · simp at h
  · rename_i q k hq
    have h1 := ha _ _ _ hq
    rcases hr : shiftR (notsN l + k) (repLoop (l.length + 1) (l.drop (notsN l + k)) q) with d | ⟨u, m⟩
    · rw [hr] at h
      simp [mapR] at h
    · rw [hr] at h
      simp [mapR] at h
      obtain ⟨m2, h2, h3⟩ := shiftR_ok hr
      have h4 := repLoop_sz _ _ _ _ _ h2
      rw [← h.1, notP_sz]
      omega
theorem seqLoop_sz {item : List UInt8 → Except Nat (Pat × Nat)} (hi : ∀ l p n, item l = .ok (p, n) → p.size + 1 ≤ 2 * n) : ∀ (f : Nat) (l : List UInt8) (ps : List Pat) (k : Nat), seqLoop item f l = .ok (ps, k) → Pat.sizes ps + ps.length ≤ 2 * k
  | 0, _, _, _, h => by
    simp [seqLoop] at h
    obtain ⟨rfl, rfl⟩ := h
    simp [Pat.sizes]
  | f + 1, l, ps, k, h => by
    unfold seqLoop at h
    split at h
    · simp at h
      obtain ⟨rfl, rfl⟩ := h
      simp [Pat.sizes]
    · split at h
      · simp at h
      · rename_i p n hp
        have h1 := hi _ _ _ hp
        split at h
        · simp at h
        · rename_i qs m hq
          have h2 := seqLoop_sz hi f _ _ _ hq
          simp at h
          simp [← h.1, Pat.sizes]
          omega
theorem seqR_sz {item : List UInt8 → Except Nat (Pat × Nat)} (hi : ∀ l p n, item l = .ok (p, n) → p.size + 1 ≤ 2 * n) {l : List UInt8} {p : Pat} {n : Nat} (h : seqR item l = .ok (p, n)) : p.size ≤ 2 * n + 1 := by
  obtain ⟨ps, h1, rfl⟩ := jr_ok h
  have h2 := seqLoop_sz hi _ _ _ _ h1
  have h3 := (sz_join 1 ps).1
  omega
theorem rowLoop_sz {part : List UInt8 → Except Nat (Pat × Nat)} {sep : Nat} (hi : ∀ l p n, part l = .ok (p, n) → p.size ≤ 2 * n + 1) : ∀ (f : Nat) (l : List UInt8) (ps : List Pat) (k : Nat), rowLoop part sep f l = .ok (ps, k) → Pat.sizes ps + ps.length ≤ 2 * k ∧ ps.length ≤ k
  | 0, _, _, _, h => by
    simp [rowLoop] at h
    obtain ⟨rfl, rfl⟩ := h
    simp [Pat.sizes]
  | f + 1, l, ps, k, h => by
    unfold rowLoop at h
    split at h
    · split at h
      · simp at h
      · rename_i p n hp
        have h1 := hi _ _ _ hp
        split at h
        · simp at h
        · rename_i qs m hq
          have h2 := rowLoop_sz hi f _ _ _ hq
          simp at h
          simp [← h.1, Pat.sizes]
          omega
    · simp at h
      obtain ⟨rfl, rfl⟩ := h
      simp [Pat.sizes]
theorem rowR_sz {part : List UInt8 → Except Nat (Pat × Nat)} {op : Int} {sep : Nat} (hi : ∀ l p n, part l = .ok (p, n) → p.size ≤ 2 * n + 1) {l : List UInt8} {p : Pat} {n : Nat} (h : rowR part op sep l = .ok (p, n)) : p.size ≤ 2 * n + 1 := by
  unfold rowR at h
  split at h
  · simp at h
  · rename_i q k hq
    have h1 := hi _ _ _ hq
    split at h
    · simp at h
    · rename_i qs m hr
      have h2 := rowLoop_sz hi _ _ _ _ hr
      simp at h
      obtain ⟨rfl, rfl⟩ := h
      rcases qs with _ | ⟨y, qs⟩
      · rw [(sz_join op [q]).2 q rfl]
        omega
      · have h3 := (sz_join op (q :: y :: qs)).1
        simp [Pat.sizes] at h2 h3
        omega
theorem patR_sz {atom : List UInt8 → Except Nat (Pat × Nat)} (ha : ∀ l p n, atom l = .ok (p, n) → p.size + 1 ≤ 2 * n) {l : List UInt8} {p : Pat} {n : Nat} (h : patR atom l = .ok (p, n)) : p.size ≤ 2 * n + 1 :=
  rowR_sz (fun _ _ _ h => rowR_sz (fun _ _ _ h => seqR_sz (fun _ _ _ h => itemR_sz ha h) h) h) h
theorem atomR_sz : ∀ (d : Nat) (l : List UInt8) (p : Pat) (n : Nat), atomR d l = .ok (p, n) → p.size + 1 ≤ 2 * n
  | 0, l, p, n, h => by
    unfold atomR at h
    split at h
    · simp at h
    · rw [leafR_sz h]
      have := (leafR_le h).1
      omega
  | d + 1, l, p, n, h => by
    unfold atomR at h
    split at h
    · unfold groupR at h
      split at h
      · simp at h
      · rename_i q k hq
        have h1 := patR_sz (atomR_sz d) hq
        split at h
        · simp at h
          rw [← h.1]
          omega
        · simp at h
    · rw [leafR_sz h]
      have := (leafR_le h).1
      omega
/-- What a whole text's pattern may be at most. -/
theorem pat_sz {s : ByteArray} {p : Pat} {n : Nat} (hs : s.size ≤ 20000) (h : patR (atomR 32) (rest s 0) = .ok (p, n)) : p.size < 99999 := by
  have h1 := patR_sz (atomR_sz 32) h
  have h2 := patR_le (atomR_le 32) h
  rw [rest_length] at h2
  omega
/-- A whole text's pattern. -/
theorem whole_text (s : ByteArray) (bp g : Nat) (hs : s.size ≤ 20000) (hgb : g ≠ bp) (hlo : Lo bp) (hf : Few s) (w : World) (h : PX w bp s 0 0 g) :
    Calls Tryz.prog 67 #[.pointer (some ⟨bp, 0, none⟩)] w fun e w' => WholePost s bp w e w' :=
  whole_any s bp g hs hgb hlo hf (fun _ _ h => pat_sz hs h) w h
end Go.Proofs.YtkpfpegjapddfaaGreatDoor
