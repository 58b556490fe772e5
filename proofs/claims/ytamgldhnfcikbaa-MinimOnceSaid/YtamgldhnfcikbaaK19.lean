/- Texts that a proof rests on: Mathematics of minim.Least: walks over alike states give one machine; the reference's alias is the first state that is alike. | The contract of the function in minim.merged: a state's number, given when its class is come to first. | Mathematics: refine's rounds put together: at their end a class holds what is alike, and nothing else. -/
import Derived.Test.YtamgldhnfcikbaaK18
set_option maxRecDepth 100000
namespace Go.Proofs.Ytamgldhnfcikbaa
open Go.RowKit

theorem least_same {R : Nat → Nat → Prop} {acc acc' : Nat → Nat} {key key' : Nat → Nat} {next next' : Nat → Nat → Option Nat} (hk : ∀ s t s' t', R s t → R s' t' → (key s = key s' ↔ key' t = key' t'))
    (hn : ∀ s t, R s t → ∀ b, b < 256 → (next s b = none ∧ next' t b = none) ∨ ∃ x y, next s b = some x ∧ next' t b = some y ∧ R x y) (ha : ∀ s t, R s t → acc s = acc' t) {L L' : List Nat} (h : Pairs R L L') : leastK acc next key L = leastK acc' next' key' L' := by
  apply List.ext_getElem?
  intro i
  rcases Nat.lt_or_ge i L.length with hi | hi
  · have hi' : i < L'.length := by rw [← h.1]; exact hi
    have e1 := List.getElem?_eq_getElem hi
    have e2 := List.getElem?_eq_getElem hi'
    have hR := h.2 i _ _ e1 e2
    rw [leastK_at e1, leastK_at e2, ha _ _ hR]
    congr 2
    refine arcsS_congr fun b hb => ?_
    unfold toK
    rcases hn _ _ hR b hb with ⟨h1, h2⟩ | ⟨x, y, h1, h2, h3⟩
    · rw [h1, h2]
    · rw [h1, h2]
      show ((numK key L x : Nat) : Int) = (numK key' L' y : Nat)
      rw [Pairs.num hk h h3]
  · rw [List.getElem?_eq_none (by rw [leastK_len]; exact hi), List.getElem?_eq_none (by rw [leastK_len, ← h.1]; exact hi)]
def TableD (m : List Sta) (D : Nat → Nat → Bool) : Prop := ∀ i k, i ≤ m.length → k ≤ m.length → (D i k = true ↔ Apart m m (i : Nat) (k : Nat))
theorem TableD.alike {m : List Sta} {D : Nat → Nat → Bool} (h : TableD m D) {i k : Nat} (hi : i ≤ m.length) (hk : k ≤ m.length) : D i k = false ↔ AlikeS m m (i : Nat) (k : Nat) := by
  unfold AlikeS
  rw [← h i k hi hk]
  cases D i k <;> simp
theorem TableD.dead {m : List Sta} {D : Nat → Nat → Bool} (h : TableD m D) {k : Nat} (hk : k ≤ m.length) : D k m.length = false ↔ DeadS m (k : Nat) := by
  rw [h.alike hk (Nat.le_refl _)]
  exact ⟨fun e => e.dead.2 (dead_end m), fun e => dead_alike e (dead_end m)⟩
theorem alias_means {m : List Sta} {D : Nat → Nat → Bool} (h : TableD m D) {s r : Int} (hs : s < m.length) (ha : AliasP m.length D s r) :
    (DeadS m s ∧ r = -1) ∨ (¬ DeadS m s ∧ ∃ i : Nat, r = i ∧ i < m.length ∧ AlikeS m m (i : Nat) s ∧ ∀ j : Nat, j < i → ¬ AlikeS m m (j : Nat) s) := by
  rcases ha with ⟨rfl, h1⟩ | ⟨k, rfl, h1, h2⟩
  · refine .inl ⟨?_, rfl⟩
    rcases h1 with h1 | ⟨k, rfl, h1⟩
    · exact dead_below h1
    · exact (h.dead (by omega)).1 h1
  · refine .inr ⟨fun hd => ?_, ?_⟩
    · rw [(h.dead (by omega)).2 hd] at h1; cases h1
    · rcases h2 with ⟨i, hi, rfl, h3, h4⟩ | ⟨rfl, h3⟩
      · exact ⟨i, rfl, hi, (h.alike (by omega) (by omega)).1 h3, fun j hj e => by
          have := h4 j hj
          rw [(h.alike (by omega) (by omega)).2 e] at this; cases this⟩
      · have := h3 k (by omega)
        rw [(h.alike (by omega) (by omega)).2 (AlikeS.refl m _)] at this; cases this
theorem alias_same {m : List Sta} {s t : Int} {i k : Nat} (h1 : AlikeS m m (i : Nat) s) (h2 : ∀ j : Nat, j < i → ¬ AlikeS m m (j : Nat) s) (h3 : AlikeS m m (k : Nat) t) (h4 : ∀ j : Nat, j < k → ¬ AlikeS m m (j : Nat) t) : i = k ↔ AlikeS m m s t := by
  constructor
  · rintro rfl; exact h1.symm.trans h3
  · intro e
    rcases Nat.lt_trichotomy i k with h | h | h
    · exact absurd (h1.trans e) (h4 i h)
    · exact h
    · exact absurd (h3.trans e.symm) (h2 k h)
end Go.Proofs.Ytamgldhnfcikbaa
set_option maxRecDepth 100000
namespace Go.Proofs.Ytamgldhnfcikbaa
open Go.RowKit

def numF (C : Nat → Nat) (L : List Nat) (c : Nat) : Int := if c ∈ L.map C then ((L.map C).findIdx (c == ·) : Nat) else -1
theorem numF_nil (C : Nat → Nat) (c : Nat) : numF C [] c = -1 := by unfold numF; rw [if_neg (by simp)]
theorem numF_old {C : Nat → Nat} {L : List Nat} {s : Nat} (h : C s ∈ L.map C) : numF C L (C s) = (numK C L s : Nat) := by unfold numF numK; rw [if_pos h]
theorem numF_none {C : Nat → Nat} {L : List Nat} {c : Nat} (h : c ∉ L.map C) : numF C L c = -1 := by unfold numF; rw [if_neg h]
theorem numF_new {C : Nat → Nat} {L : List Nat} {s : Nat} (h : C s ∉ L.map C) : numF C (L ++ [s]) (C s) = (L.length : Nat) := by
  rw [numF_old (by simp), numK_new h]
theorem numF_else {C : Nat → Nat} {L : List Nat} {s c : Nat} (hc : c ≠ C s) : numF C (L ++ [s]) c = numF C L c := by
  unfold numF
  by_cases h : c ∈ L.map C
  · have h1 : (L.map C).findIdx (c == ·) < (L.map C).length := List.findIdx_lt_length_of_exists ⟨c, h, by simp⟩
    rw [if_pos h, if_pos (by rw [List.map_append]; exact List.mem_append_left _ h), List.map_append, List.findIdx_append, if_pos h1]
  · rw [if_neg h, if_neg]
    rw [List.map_append, List.mem_append]
    rintro (h1 | h1)
    · exact h h1
    · simp at h1; exact hc h1
def plcL (L : List Nat) : List Value := L.map fun s => .int .i64 (s : Nat)
structure MK (w : World) (bn bc bf gn n B q o cc : Nat) (C : Nat → Nat) (v : Value) (L : List Nat) : Prop where
  b1 : w.heap[bn]? = some (.cells #[.slice (some ⟨gn, 0, none⟩) n n] 44 (0, 0))
  b2 : w.heap[bc]? = some (.cells #[.slice (some ⟨q, o, none⟩) n cc] 44 (0, 0))
  b3 : w.heap[bf]? = some (.cells #[v] 44 (0, 0))
  nb : w.heap[gn]? = some (.cells (Slices n fun c => .int .i64 (numF C L c)) 3 (0, 0))
  cl : ∀ i, i < n → w.cell? ⟨q, o + i, none⟩ = some (.int .i64 (C i : Nat))
  rf : w.ownsRow B 3 1 v L.length (plcL L)
  far : bn < B ∧ bc < B ∧ bf < B ∧ gn < B ∧ q < B ∧ B ≤ w.heap.size
  ne : bn ≠ gn ∧ bn ≠ bf ∧ bc ≠ gn ∧ bc ≠ bf ∧ q ≠ gn ∧ q ≠ bf ∧ gn ≠ bf
theorem MK.keep {w w' : World} {bn bc bf gn n B q o cc : Nat} {C : Nat → Nat} {v : Value} {L : List Nat} (h : MK w bn bc bf gn n B q o cc C v L) (hs : w.heap.size ≤ w'.heap.size) (hk : ∀ k, k < w.heap.size → w'.heap[k]? = w.heap[k]?) : MK w' bn bc bf gn n B q o cc C v L := by
  obtain ⟨f1, f2, f3, f4, f5, f6⟩ := h.far
  exact ⟨(hk _ (by omega)).trans h.b1, (hk _ (by omega)).trans h.b2, (hk _ (by omega)).trans h.b3, (hk _ (by omega)).trans h.nb, fun i hi => (World.cell?_of_block (hk q (by omega))).trans (h.cl i hi), row_same h.rf fun k e => hk k (h.rf.lt k e).2, ⟨f1, f2, f3, f4, f5, by omega⟩, h.ne⟩
end Go.Proofs.Ytamgldhnfcikbaa
set_option maxRecDepth 100000
namespace Go.Proofs.Ytamgldhnfcikbaa
open Go.RowKit

theorem fromS_lt {f : Nat → Bool} {m : List Sta} {n q s : Nat} {ts : List Nat} (h : s ∈ fromS (entU f m n) ts q) : s < n := by
  obtain ⟨t, _, h2⟩ := mem_fromS.1 h
  exact (mem_entU.1 (mem_sel.1 h2)).1
theorem PI.members_nodup {n k : Nat} {O P C : Nat → Nat} {sp : Nat → Nat × Nat × Nat} (h : PI n k O P C sp) {c : Nat} (hc : c < k) : (membersOf O (sp c)).Nodup := by
  obtain ⟨z1, z2, z3, z4⟩ := h.sz c hc
  unfold membersOf
  rw [List.Nodup, List.pairwise_map]
  refine List.Pairwise.imp_of_mem ?_ (List.nodup_range (n := (sp c).2.2 - (sp c).1))
  intro i j hi hj hne e
  rw [List.mem_range] at hi hj
  have h1 := (h.od ((sp c).1 + i) (by omega)).2
  have h2 := (h.od ((sp c).1 + j) (by omega)).2
  rw [e, h2] at h1
  omega
structure RfA (m : List Sta) (n k : Nat) (O P C : Nat → Nat) (sp : Nat → Nat × Nat × Nat) (q : Nat) : Prop where
  pi : PI n k O P C sp
  un : ∀ t, t < n → ¬ Mk P C sp t
  fine : Fine n 1 k (fun _ => 0) C ((List.range q).map (grp (accAt m) (keysUp (accAt m) n) n))
theorem RfA.start (m : List Sta) {n : Nat} (h0 : 0 < n) : RfA m n 1 (fun i => i) (fun i => i) (fun _ => 0) (fun _ => (0, 0, n)) 0 :=
  ⟨PI.whole h0, fun t _ h => by unfold Mk at h; exact absurd h (Nat.not_lt_zero _), Fine.start n 1 _⟩
theorem RfA.split {m : List Sta} {n k k' q : Nat} {O P C O' P' C' : Nat → Nat} {sp sp' : Nat → Nat × Nat × Nat} (h : RfA m n k O P C sp q) (hs : SplitR n k k' O' P' C C' sp' (grp (accAt m) (keysUp (accAt m) n) n q)) : RfA m n k' O' P' C' sp' (q + 1) :=
  ⟨hs.pi, hs.un, by rw [List.range_succ, List.map_append]; exact h.fine.split hs⟩
structure RfI (m : List Sta) (n i k : Nat) (O P C : Nat → Nat) (sp : Nat → Nat × Nat × Nat) : Prop where
  pi : PI n k O P C sp
  un : ∀ t, t < n → ¬ Mk P C sp t
  rf : RF m n i C
  co : Coarse n (fun s t => AlikeS m m (s : Nat) (t : Nat)) C
  ac : ∀ s t, s < n → t < n → C s = C t → accS m (s : Nat) = accS m (t : Nat)
theorem RfA.done {m : List Sta} {n k : Nat} {O P C : Nat → Nat} {sp : Nat → Nat × Nat × Nat} (h : RfA m n k O P C sp (keysUp (accAt m) n).length) : RfI m n 0 k O P C sp := by
  refine ⟨h.pi, h.un, RF.start m n C, Coarse.fine (fun s t _ _ _ => rfl) h.fine fun l hl s t hs ht e => ?_, fun s t hs ht e => ?_⟩
  · obtain ⟨g, _, rfl⟩ := List.mem_map.1 hl
    have ha : accAt m s = accAt m t := e.acc
    rw [grp_mem, grp_mem, ha]
    exact ⟨fun h => ⟨ht, h.2⟩, fun h => ⟨hs, h.2⟩⟩
  · have hk : accAt m s ∈ keysUp (accAt m) n := (keysUp_mem _ _ _).2 ⟨s, hs, rfl⟩
    have h1 := ((h.fine.eq s t hs ht).1 e).2 _ (List.mem_map.2 ⟨_, List.mem_range.2 (noOf_lt hk), rfl⟩)
    have h2 := (grp_mem.1 (h1.1 (grp_at hs))).2
    rw [noOf_at hk] at h2
    exact Option.some.inj h2
structure RfQ (m : List Sta) (f : Nat → Bool) (n k k' : Nat) (C O P C' : Nat → Nat) (sp : Nat → Nat × Nat × Nat) (ts : List Nat) (q : Nat) : Prop where
  pi : PI n k' O P C' sp
  un : ∀ t, t < n → ¬ Mk P C' sp t
  fine : Fine n k k' C C' ((List.range q).map (fromS (entU f m n) ts))
theorem RfI.take {m : List Sta} {n i k : Nat} {O P C : Nat → Nat} {sp : Nat → Nat × Nat × Nat} (h : RfI m n i k O P C sp) (f : Nat → Bool) (ts : List Nat) : RfQ m f n k k C O P C sp ts 0 := ⟨h.pi, h.un, Fine.start n k C⟩
theorem RfQ.split {m : List Sta} {f : Nat → Bool} {n k k' k2 q : Nat} {C O P C' O' P' C2 : Nat → Nat} {sp sp' : Nat → Nat × Nat × Nat} {ts : List Nat} (h : RfQ m f n k k' C O P C' sp ts q) (hs : SplitR n k' k2 O' P' C' C2 sp' (fromS (entU f m n) ts q)) : RfQ m f n k k2 C O' P' C2 sp' ts (q + 1) :=
  ⟨hs.pi, hs.un, by rw [List.range_succ, List.map_append]; exact h.fine.split hs⟩
theorem RfI.round {m : List Sta} {f : Nat → Bool} {n i k k' : Nat} {O P C O' P' C' : Nat → Nat} {sp sp' : Nat → Nat × Nat × Nat} {ts : List Nat} (h : RfI m n i k O P C sp) (hi : i < k) (hmn : m.length = n) (hm : ∀ k, Marks f (arcsOf m k)) (hf : ∀ k, fitsB n (arcsOf m k) = true)
    (hr : ∀ s : Nat, s < n → ∀ b, b < 256 → nextS m s b < 0 ∨ ∃ y : Nat, y < n ∧ nextS m s b = y) (hu : ∀ x : Nat, x < n → ¬ DeadS m x) (hts : ts = membersOf O (sp i)) (hq : RfQ m f n k k' C O' P' C' sp' ts (cntB f 255 + 1)) : RfI m n (i + 1) k' O' P' C' sp' := by
  have ht : ∀ t, t ∈ ts ↔ t < n ∧ C t = i := fun t => by rw [hts]; exact h.pi.members hi t
  refine ⟨hq.pi, hq.un, h.rf.step hi (fun s t hs ht e => ((hq.fine.eq s t hs ht).1 e).1) hq.fine.or ?_, h.co.fine hq.fine fun l hl s t hs ht2 e => ?_, fun s t hs ht e => h.ac s t hs ht ((hq.fine.eq s t hs ht).1 e).1⟩
  · exact stab_split hmn hm hf ht fun s t hs ht2 e q hq2 => ((hq.fine.eq s t hs ht2).1 e).2 _ (List.mem_map.2 ⟨q, List.mem_range.2 (by omega), rfl⟩)
  · obtain ⟨q, hq2, rfl⟩ := List.mem_map.1 hl
    rw [List.mem_range] at hq2
    obtain ⟨b, hb, rfl⟩ := cntB_onto f 255 q (by omega)
    exact from_alike (A := fun s t => AlikeS m m (s : Nat) (t : Nat)) hmn hm hf ht h.co (fun s t e => e.symm) (fun s t hs ht e x hx => alike_go hr hu hs ht (by omega) e hx) hs ht2 e
theorem RfI.done {m : List Sta} {n k : Nat} {O P C : Nat → Nat} {sp : Nat → Nat × Nat × Nat} (h : RfI m n k k O P C sp) (hr : ∀ s : Nat, s < n → ∀ b, b < 256 → nextS m s b < 0 ∨ ∃ y : Nat, y < n ∧ nextS m s b = y)
    {s t : Nat} (hs : s < n) (ht : t < n) : C s = C t ↔ AlikeS m m (s : Nat) (t : Nat) :=
  ⟨fun e => class_alike hr h.ac (fun _ _ _ _ hs ht e hb hx hn => h.rf.done (fun t ht => (h.pi.cl t ht).1) hs ht e hb hx hn) hs ht e, fun e => h.co s t hs ht e⟩
end Go.Proofs.Ytamgldhnfcikbaa
