/- Texts that a proof rests on: The contract of Cut. | The contract of Cut: the walk. | What the law's examples match. | The law's examples hold. -/
import Derived.Test.YtooaamepflkgnaaDoorN34
import Derived.Test.YtooaamepflkgnaaDoorN36
import Derived.Test.YtooaamepflkgnaaDoorN25
import Derived.Test.YtooaamepflkgnaaDoorN39
set_option maxRecDepth 100000
namespace Go.Proofs.YtooaamepflkgnaaDoor
open Go.RowKit

theorem infoStr : (Tryd.prog.info? 9).map (fun i => (i.zero, i.size, i.bytes)) = some (some (.string ⟨#[]⟩), 1, 16) := by kernel_rfl
/-- What Longest answers. -/
noncomputable def lg (s : ByteArray) (p : Pat) (i : Int) : Int × Bool := by
  classical
  exact if h : ∃ q : Int × Bool, LongR s p i q.1 q.2 then h.choose else (0, false)
theorem lg_eq {s : ByteArray} {p : Pat} {i z : Int} {ok : Bool} (h : LongR s p i z ok) : lg s p i = (z, ok) := by
  unfold lg
  have hex : ∃ q : Int × Bool, LongR s p i q.1 q.2 := ⟨(z, ok), h⟩
  rw [dif_pos hex]
  obtain ⟨h1, h2⟩ := hex.choose_spec.same h
  exact Prod.ext h1 h2
/-- A text cut, from place i on: what was cut ends at d; so many places are left. -/
def cutS (s : ByteArray) (L : Int → Int × Bool) : Nat → Nat → Nat → List ByteArray
  | 0, _, d => [s.extract d s.size]
  | k + 1, i, d => if d ≤ i ∧ (L i).2 = true ∧ (i : Int) < (L i).1 then s.extract d i :: cutS s L k (i + 1) (L i).1.toNat else cutS s L k (i + 1) d
theorem cut_skip (s : ByteArray) (L : Int → Int × Bool) (z : Nat) (hz : z ≤ s.size) : ∀ (d i : Nat), i + d = z → cutS s L (s.size - i) i z = cutS s L (s.size - z) z z
  | 0, i, h => by rw [show i = z by omega]
  | d + 1, i, h => by
    have e : s.size - i = (s.size - (i + 1)) + 1 := by omega
    rw [e, cutS, if_neg (by omega)]
    exact cut_skip s L z hz d (i + 1) (by omega)
theorem cut_yes (s : ByteArray) (L : Int → Int × Bool) {i d z : Nat} (hdi : d ≤ i) (hi : i < s.size) (hL : L i = ((z : Int), true)) (hz : i < z) (hzs : z ≤ s.size) : cutS s L (s.size - i) i d = s.extract d i :: cutS s L (s.size - z) z z := by
  have e : s.size - i = (s.size - (i + 1)) + 1 := by omega
  rw [e, cutS, hL, if_pos ⟨hdi, rfl, by simp only; omega⟩]
  simp only [Int.toNat_natCast]
  rw [cut_skip s L z hzs (z - (i + 1)) (i + 1) (by omega)]
theorem cut_no (s : ByteArray) (L : Int → Int × Bool) {i d : Nat} (hi : i < s.size) (hL : (L i).2 = false ∨ (L i).1 ≤ i) : cutS s L (s.size - i) i d = cutS s L (s.size - (i + 1)) (i + 1) d := by
  have e : s.size - i = (s.size - (i + 1)) + 1 := by omega
  rw [e, cutS, if_neg]
  rintro ⟨_, h1, h2⟩
  rcases hL with h | h
  · rw [h] at h1; cases h1
  · omega
def CutP (s : ByteArray) (p : Pat) (w : World) (e : Ending) (w' : World) : Prop := ∃ v, e = .returned v ∧ RdV w' v ((cutS s (lg s p) s.size 0 0).map Value.string) ∧ Below w.heap.size w w'
theorem rdv_rowS {w : World} {base n : Nat} {v : Value} {l : List Value} (h : w.ownsRow base 9 1 v n l) (hn : l.length = n) : RdV w v l := by
  subst hn
  rcases h.2 with ⟨rfl, e⟩ | ⟨g, cap, cur, rfl, _, hgb, hnc, _, _, hct⟩
  · have : l = [] := List.eq_nil_of_length_eq_zero (by simpa using e)
    subst this
    exact .inl ⟨rfl, rfl⟩
  · refine .inr ⟨g, 0, cap, rfl, fun i hi => ?_⟩
    rw [cell_of_row w g _ _ _ _ hgb, Nat.zero_add]
    have h1 : (cur.toList.take (l.length * 1))[i]? = some l[i] := by rw [hct, List.getElem?_eq_getElem hi]
    rw [List.getElem?_take] at h1
    split at h1
    · simpa using h1
    · cases h1
theorem row_cells {w : World} {base n g : Nat} {e : TypeId} {v : Value} {l : List Value} (h : w.ownsRow base e 1 v n l) (hg : v.ownBlock = some g) : ∃ cur, w.heap[g]? = some (.cells cur e (0, 0)) := by
  rcases h.2 with ⟨rfl, _⟩ | ⟨g', cap, cur, rfl, _, hgb, _⟩
  · simp [Value.ownBlock] at hg
  · obtain rfl : g' = g := by simpa [Value.ownBlock] using hg
    exact ⟨cur, hgb⟩
theorem row_out {w w' : World} {base n : Nat} {e : TypeId} {v : Value} {l : List Value} {X : Nat → Prop} (h : w.ownsRow base e 1 v n l) (ho : Out X w w') (hx : ∀ g, v.ownBlock = some g → ¬ X g) : w'.ownsRow base e 1 v n l := by
  refine ⟨h.1, ?_⟩
  rcases h.2 with h2 | ⟨g, cap, cur, rfl, h3, hgb, h4⟩
  · exact .inl h2
  · exact .inr ⟨g, cap, cur, rfl, h3, (ho.block g (lt_of_block hgb) (hx g rfl)).trans hgb, h4⟩
/-- What is known besides a row of one's own. -/
def XR (mb : Nat → Option Pat) (v : Value) : Nat → Prop := fun k => Xm mb k ∨ v.ownBlock = some k
/-- The state of Cut's loop. -/
structure CutI (s : ByteArray) (p : Pat) (mb : Nat → Option Pat) (b : Nat) (w4 wr : World) (v : Value) (l : List ByteArray) : Prop where
  row : wr.ownsRow w4.heap.size 9 1 v l.length (l.map Value.string)
  memo : Memos s mb (XR mb v) wr
  out : Out (fun k => Xm mb k ∨ w4.heap.size ≤ k) w4 wr
theorem CutI.ready {s : ByteArray} {p : Pat} {mb : Nat → Option Pat} {b : Nat} {w4 wr : World} {v : Value} {l : List ByteArray} (h : CutI s p mb b w4 wr v l) (hr : Ready s p mb b (Xm mb) w4) : Ready s p mb b (XR mb v) wr := by
  refine ⟨TreeP.trans (A := w4) (fun b cs t _ hb => ?_) (fun a u hc => ?_) (fun _ _ h => h) (fun _ _ _ h => h) p hr.tree, h.memo, fun _ h => .inl h, fun k hk => ?_⟩
  · refine (h.out.block b (lt_of_block hb) ?_).trans hb
    rintro (e | e)
    · exact hr.memo.not_cells hb rfl e
    · have := lt_of_block hb; omega
  · refine h.out.cell hc ?_
    obtain ⟨o, h1, h2⟩ := cell_obj hc
    rintro (e | e)
    · exact hr.memo.not_cells h1 h2 e
    · have := lt_of_block h1; omega
  · rcases hk with e | e
    · exact h.memo.lt e
    · exact (h.row.lt k e).2
theorem CutI.next {s : ByteArray} {p : Pat} {mb : Nat → Option Pat} {b : Nat} {w4 wr w5 : World} {v : Value} {l : List ByteArray} (h : CutI s p mb b w4 wr v l) (ho : Out (Xm mb) wr w5) (hm : Memos s mb (XR mb v) w5) : CutI s p mb b w4 w5 v l := by
  refine ⟨row_out h.row ho fun g hg hx => ?_, hm, h.out.trans (ho.mono fun _ _ h => .inl h)⟩
  obtain ⟨cur, hc⟩ := row_cells h.row hg
  exact h.memo.not_cells hc rfl hx
theorem CutI.push {s : ByteArray} {p : Pat} {mb : Nat → Option Pat} {b g cap : Nat} {w4 w5 w6 w7 w8 : World} {v : Value} {l : List ByteArray} {x : ByteArray} (h : CutI s p mb b w4 w5 v l) (h6 : Below w5.heap.size w5 w6) (h7 : Below w6.heap.size w6 w7)
    (hg : w7.grownBy w8 v.ownBlock) (hrow : w8.ownsRow w4.heap.size 9 1 (.slice (some ⟨g, 0, none⟩) (l.length + 1) cap) (l.length + 1) (l.map Value.string ++ [.string x])) (hat : v.ownBlock = some g ∨ g = w7.heap.size) : CutI s p mb b w4 w8 (.slice (some ⟨g, 0, none⟩) (l.length + 1) cap) (l ++ [x]) := by
  have h57 : Below w5.heap.size w5 w7 := h6.trans (h7.mono h6.size)
  have hs := h57.size
  have hs4 := h.out.size
  have hm7 := h.memo.below h57
  have ho8 : Out (fun k => v.ownBlock = some k) w7 w8 := ⟨hg.os, hg.tape, hg.output, hg.size, fun k hk hn => hg.block k hk fun e => hn e.symm⟩
  refine ⟨by simpa using hrow, ?_, ?_⟩
  · refine Memos.weak (X := fun k => XR mb v k ∨ w7.heap.size ≤ k) ?_ fun k _ hk => ?_
    · refine hm7.map (fun k hx => ho8.block k (hm7.lt hx) fun e => ?_) fun u L hr => ?_
      · obtain ⟨cur, hc⟩ := row_cells h.row e
        exact h.memo.not_cells hc rfl hx
      · have h1 := hr.far (mb := fun _ => none) (Out.refl _ w7) (fun k hk => absurd rfl hk)
        exact h1.out ho8 (fun k _ e => .inl (.inr e))
    · rcases hk with e | e
      · exact .inl (.inl e)
      · have e : g = k := by simpa [Value.ownBlock] using e
        subst e
        rcases hat with e | e
        · exact .inl (.inr e)
        · exact .inr (by omega)
  · refine (h.out.trans (Out.below h57)).comp ho8 fun k _ e => .inr ?_
    exact (h.row.lt k e).1
end Go.Proofs.YtooaamepflkgnaaDoor
set_option maxRecDepth 100000
namespace Go.Proofs.YtooaamepflkgnaaDoor
open Go.RowKit

theorem one_newsS {w : World} {vb : Nat} {x : Value} (hvb : w.heap[vb]? = some (.cells #[x] 9 (0, 0))) : ∀ j u, [x][j]? = some u → w.cell? ((⟨vb, 0, none⟩ : Addr).add j) = some u := by
  intro j u hj
  exact World.news_of_block hvb j u (by simpa using hj)
theorem clone_any (s : ByteArray) (w : World) (hs : s.size ≤ 1000) : Calls Tryd.prog 29 #[.string s] w fun e w' => e = .returned (.string s) ∧ Below w.heap.size w w' := by
  go_enter Tryd.func29, Tryd.ntmps29
  go_wp2_with (go_at_call 35; refine (Tryd.stringslite_Clone s w (by omega)).mono ?_; rintro e w2 ⟨rfl, hb2⟩)
  go_ret
  exact ⟨rfl, hb2⟩
set_option linter.unusedSimpArgs false in
set_option maxHeartbeats 4000000 in
theorem Cut_any (s : ByteArray) (p : Pat) (ks : Value) (w : World) (hf : Fine s p) (hk : Kids w p.kids ks) :
    Calls Tryd.prog 12 #[(.agg #[.int .i64 p.op, .int .u64 (wd p.set 0), .int .u64 (wd p.set 1), .int .u64 (wd p.set 2), .int .u64 (wd p.set 3), .int .i64 p.lo, .int .i64 p.hi, ks]), .string s] w (CutP s p w) := by
  obtain ⟨a, cap, rfl⟩ := hk.len
  obtain ⟨i0, hi0, hz0, hz1, hz2⟩ := info_parts infoStr
  have hb1 := below_one w (.cells #[.int .i64 p.op, .int .u64 (wd p.set 0), .int .u64 (wd p.set 1), .int .u64 (wd p.set 2), .int .u64 (wd p.set 3), .int .i64 p.lo, .int .i64 p.hi, .slice a p.kids.length cap] 28)
  have HC := Lib.hid (newMatcher_any s p (.slice a p.kids.length cap) _ hf (hk.below hb1))
  have HB := Lib.hid hb1
  have HF := Lib.hid hf
  have HI := Lib.hid (And.intro hi0 (And.intro hz0 (And.intro hz1 hz2)))
  have hsz := hf.sz
  clear hf hk hb1 hi0 hz0 hz1 hz2
  go_enter Tryd.func12, Tryd.ntmps12
  go_wp2_with (go_at_call 26; refine HC.out.mono ?_; rintro e w3 ⟨b, mb, rfl, hb3, hr3, hx3⟩; have HX := Lib.hid (And.intro hb3 (And.intro hr3 hx3)); clear hb3 hr3 hx3)
  obtain ⟨nb, hnb⟩ : ∃ nb, w3.heap.size = nb := ⟨_, rfl⟩
  obtain ⟨w4, hw4⟩ : ∃ w4, w3.alloc (.cells #[pV b, .string s] 53) = w4 := ⟨_, rfl⟩
  have hb4 : Below w3.heap.size w3 w4 := by rw [← hw4]; exact below_one w3 _
  have hs4 : w4.heap.size = nb + 1 := by rw [← hw4]; simp [hnb]
  have hbm : w4.heap[nb]? = some (.cells #[pV b, .string s] 53 (0, 0)) := by rw [← hw4, ← hnb]; exact heap_alloc_new w3 _
  have hr4 := HX.out.2.1.below hb4
  have HR4 := Lib.hid hr4
  have HBM := Lib.hid hbm
  have HBX : Hid (∀ wr, Out (fun k => Xm mb k ∨ w4.heap.size ≤ k) w4 wr → Below w.heap.size w wr) := Lib.hid fun wr ho => by
    have h1 := (HB.out.trans (HX.out.1.mono HB.out.size)).trans (hb4.mono (Nat.le_trans HB.out.size HX.out.1.size))
    refine h1.trans (ho.to_below (fun k _ h => ?_) h1.size)
    rcases h with h | h
    · have := HX.out.2.2 k h; have := HB.out.size; omega
    · have := h1.size; omega
  rw [hw4, hnb]
  clear hw4 hb4 hbm hr4
  go_loopw [6, 7, 8] (fun P B A wr => ∃ (at_ bg : Nat) (l : List ByteArray), B = .int .i64 bg ∧ A = .int .i64 at_ ∧ bg ≤ at_ ∧ at_ ≤ s.size ∧ l.length ≤ at_ ∧ CutI s p mb b w4 wr P l ∧ Hid (l ++ cutS s (lg s p) (s.size - at_) at_ bg = cutS s (lg s p) s.size 0 0)) (fun _ _ A _ => s.size - (intOf A).toNat)
  case atStart => exact ⟨0, 0, [], rfl, rfl, Nat.le_refl _, Nat.zero_le _, Nat.zero_le _, ⟨World.ownsRow_nil _ _ _ _, HR4.out.memo.weak (fun k _ h => by rcases h with h | h; exact h; simp [Value.ownBlock] at h), Out.refl _ _⟩, by rw [Hid]; rfl⟩
  case round =>
    obtain ⟨at_, bg, l, rfl, rfl, hba, hat, hll, hci, HT⟩ := hrel
    have hbr := (hci.out.block nb (by omega) (by rintro (h | h); exact HR4.out.memo.not_cells HBM.out rfl h; omega)).trans HBM.out
    obtain ⟨c0, c1⟩ := pair_cells hbr
    have HCI := Lib.hid hci
    clear hbr hci
    by_cases hcl : at_ < s.size
    · have hd : decide ((at_ : Int) < s.size) = true := by simpa using hcl
      have HL := Lib.hid (longest_any s p mb b _ at_ wr HF.out (HCI.out.ready HR4.out) (by omega))
      have HM : Hid (∀ z : Int, LongR s p at_ z true → ∃ zn : Nat, z = zn ∧ at_ ≤ zn ∧ zn ≤ s.size) := Lib.hid fun z h => by
        obtain ⟨h0, h1, h2, _⟩ := h.some
        have := M_mono s p at_ z h2 h0 h1
        exact ⟨z.toNat, by omega, by omega, by omega⟩
      have HLT := Lib.hid hcl
      clear hcl
      go_wp2_with (first
        | (go_at_call 27; refine HL.out.mono ?_; rintro e w5 ⟨z, ok, rfl, hlr, ho5, hr5⟩; have HN5 := Lib.hid (HCI.out.next ho5 hr5.memo); have HLG := Lib.hid (lg_eq hlr); have HLR := Lib.hid hlr; have hs45 := HN5.out.out.size; clear hlr ho5 hr5; rcases ok with _ | _; rotate_left; obtain ⟨zn, hzn, hz1, hz2⟩ := HM.out z HLR.out; obtain rfl := hzn; rcases Nat.eq_or_lt_of_le hz1 with hz3 | hz3)
        | (go_at_call 29; refine (clone_any (s.extract bg at_) _ (by simp; omega)).mono ?_; rintro e w6 ⟨rfl, hb6⟩; have hs56 := hb6.size; have HB6 := Lib.hid hb6; have HRW := Lib.hid ((row_out HN5.out.row (Out.below (X := fun _ => False) hb6) (fun _ _ h => h.elim)).alloc (.cells #[.string (s.extract bg at_)] 9)); clear hb6)
        | (at_builtin; refine wpList_append_lies _ rfl _ _ 33 rfl w4.heap.size 9 i0 (.string ⟨#[]⟩) 1 16 Tryd.underlying33 HI.out.1 HI.out.2.1 HI.out.2.2.1 HI.out.2.2.2 rfl (by decide) u6 l.length (l.map Value.string) rfl HRW.out ⟨w6.heap.size, 0, none⟩ 1 1 [.string (s.extract bg at_)] rfl rfl (one_newsS (heap_alloc_new w6 _)) (by simp [Value.oneCell']) (by omega) (by unfold maxLen; omega) (by omega) (by simp; omega) (w6.heap.size + 1) (by simp) ?_; intro g cap2 w8 h2 h3 h4 h5; have HPU := Lib.hid (HN5.out.push HB6.out (below_one w6 _) h3 h2 (by rcases h4 with h | h; exact .inl h; exact .inr (by simp; exact h))); clear h2 h3 h4 h5))
      · go_roundw
        case rel => exact ⟨at_ + 1, bg, l, rfl, by simp [← hz3], by omega, by omega, by omega, HN5.out, by
          rw [Hid, ← HT.out, cut_no s (lg s p) (i := at_) (d := bg) HLT.out (.inr (by rw [HLG.out]; simp; omega))]⟩
        case measure => simp [intOf]; omega
      · go_roundw
        case rel => exact ⟨zn, zn, l ++ [s.extract bg at_], rfl, rfl, Nat.le_refl _, hz2, by simp; omega, by simpa using HPU.out, by
          rw [Hid, ← HT.out, cut_yes s (lg s p) hba HLT.out HLG.out hz3 hz2]
          simp⟩
        case measure => simp [intOf]; omega
      · go_roundw
        case rel => exact ⟨at_ + 1, bg, l, rfl, num_succ at_, by omega, by omega, by omega, HN5.out, by
          rw [Hid, ← HT.out, cut_no s (lg s p) (i := at_) (d := bg) HLT.out (.inl (by rw [HLG.out]))]⟩
        case measure => simp [intOf]; omega
    · obtain rfl : at_ = s.size := by omega
      have hd : decide ((s.size : Int) < s.size) = false := by simp
      have hs45 := HCI.out.out.size
      go_wp2_with (first
        | (go_at_call 29; refine (clone_any (s.extract bg s.size) _ (by simp; omega)).mono ?_; rintro e w6 ⟨rfl, hb6⟩; have hs56 := hb6.size; have HB6 := Lib.hid hb6; have HRW := Lib.hid ((row_out HCI.out.row (Out.below (X := fun _ => False) hb6) (fun _ _ h => h.elim)).alloc (.cells #[.string (s.extract bg s.size)] 9)); clear hb6)
        | (at_builtin; refine wpList_append_lies _ rfl _ _ 33 rfl w4.heap.size 9 i0 (.string ⟨#[]⟩) 1 16 Tryd.underlying33 HI.out.1 HI.out.2.1 HI.out.2.2.1 HI.out.2.2.2 rfl (by decide) u6 l.length (l.map Value.string) rfl HRW.out ⟨w6.heap.size, 0, none⟩ 1 1 [.string (s.extract bg s.size)] rfl rfl (one_newsS (heap_alloc_new w6 _)) (by simp [Value.oneCell']) (by omega) (by unfold maxLen; omega) (by omega) (by simp; omega) (w6.heap.size + 1) (by simp) ?_; intro g cap2 w8 h2 h3 h4 h5; have HPU := Lib.hid (HCI.out.push HB6.out (below_one w6 _) h3 h2 (by rcases h4 with h | h; exact .inl h; exact .inr (by simp; exact h))); clear h2 h3 h4 h5))
      have hfin : l ++ [s.extract bg s.size] = cutS s (lg s p) s.size 0 0 := by
        rw [← HT.out, Nat.sub_self]
        rfl
      have hRd : RdV w8 (.slice (some ⟨g, 0, none⟩) (l.length + 1) cap2) ((cutS s (lg s p) s.size 0 0).map Value.string) := by
        rw [← hfin]
        exact rdv_rowS HPU.out.row (by simp)
      exact bodyPost_ret (v := .slice (some ⟨g, 0, none⟩) (l.length + 1) cap2) (by simp [results, Tryd.results12, go_sem, *]) rfl ⟨_, rfl, hRd, HBX.out w8 HPU.out.out⟩
end Go.Proofs.YtooaamepflkgnaaDoor
set_option maxRecDepth 100000
namespace Go.Proofs.YtooaamepflkgnaaDoor
open Go.RowKit

def hasB (s : ByteArray) (c : BitVec 256) (k : Nat) : Bool := if h : k < s.size then c.getLsbD s[k].toNat else false
theorem BB_iff (s : ByteArray) (c : BitVec 256) (k : Nat) : BB s c k ↔ hasB s c k = true := by
  unfold BB hasB
  constructor
  · rintro ⟨h, e⟩
    have h : k < s.size := by simpa using h
    rw [dif_pos h]
    simpa using e
  · intro e
    split at e
    · rename_i h
      exact ⟨by simpa using h, by simpa using e⟩
    · cases e
theorem run_of {s : ByteArray} {c : BitVec 256} {i e : Nat} (h : (List.range e).all (fun k => decide (k < i) || hasB s c k) = true) : ∀ k, i ≤ k → k < e → hasB s c k = true := fun k h1 h2 => by
  have := (List.all_eq_true.1 h) k (by simpa using h2)
  simp at this
  rcases this with h3 | h3
  · omega
  · exact h3
/-- Once or more the byte c, none too. -/
def starP (c : UInt8) : Pat := .mk 3 0 0 (-1) [litP ⟨#[c]⟩]
theorem lit_M (s : ByteArray) (c : UInt8) (i j : Int) : (litP ⟨#[c]⟩).M s i j ↔ byteR s (byteP c).set i j := by
  rw [M_cat rfl]
  show rowM s [byteP c] i j ↔ _
  rw [rowM_one, M_set rfl]
  rfl
theorem star_M (s : ByteArray) (c : UInt8) (i j : Int) : (starP c).M s i j ↔ ∃ k, Pw (byteR s (byteP c).set) k i j := by
  rw [M_rep rfl]
  have hR : rowM s (starP c).kids = byteR s (byteP c).set := by
    funext a b
    exact propext ((rowM_one s (litP ⟨#[c]⟩) a b).trans (lit_M s c a b))
  rw [hR]
  constructor
  · rintro ⟨k, _, _, h⟩; exact ⟨k, h⟩
  · rintro ⟨k, h⟩; exact ⟨k, by show (0 : Int) ≤ k; omega, .inl (by show (-1 : Int) < 0; omega), h⟩
theorem star_at (s : ByteArray) (c : UInt8) (i e : Nat) (hie : i ≤ e) (hrun : ∀ k, i ≤ k → k < e → hasB s (byteP c).set k = true) (hstop : hasB s (byteP c).set e = false) (x : Int) : (starP c).M s i x ↔ (i : Int) ≤ x ∧ x ≤ e := by
  rw [star_M, star_iff s _ i x (by omega)]
  refine and_congr_right fun h1 => ⟨fun h => ?_, fun h t h2 h3 => ?_⟩
  · by_cases h4 : x ≤ e
    · exact h4
    · have := (BB_iff s _ e).1 (h e (by omega) (by omega))
      rw [hstop] at this; cases this
  · obtain ⟨k, rfl⟩ : ∃ k : Nat, t = k := ⟨t.toNat, by omega⟩
    exact (BB_iff s _ k).2 (hrun k (by omega) (by omega))
theorem star_long (s : ByteArray) (c : UInt8) (i e : Nat) (hie : i ≤ e) (he : e ≤ s.size) (hrun : ∀ k, i ≤ k → k < e → hasB s (byteP c).set k = true) (hstop : hasB s (byteP c).set e = false) : LongR s (starP c) i e true :=
  .inl ⟨rfl, by omega, by omega, (star_at s c i e hie hrun hstop e).2 ⟨by omega, Int.le_refl _⟩, fun x hx => ((star_at s c i e hie hrun hstop x).1 hx).2⟩
abbrev tAAB : ByteArray := ⟨#[97, 97, 98]⟩
abbrev tXAAY : ByteArray := ⟨#[120, 97, 97, 121]⟩
theorem ex_long {z : Int} {ok : Bool} (h : LongR tAAB (starP 97) 0 z ok) : z = 2 ∧ ok = true :=
  h.same (star_long tAAB 97 0 2 (by omega) (by decide) (run_of (by decide)) (by decide))
theorem ex_ends {L : List (Int × Int)} (hN : Nrm L) (h : ∀ x, mem L x ↔ (0 : Int) ≤ 0 ∧ (0 : Int) ≤ tAAB.size ∧ (starP 97).M tAAB 0 x) : ints L = [0, 1, 2] := by
  have e : L = [(0, 2)] := runs_eq hN (.one (by decide)) fun x => by
    rw [h, one_run]
    have := star_at tAAB 97 0 2 (by omega) (run_of (by decide)) (by decide) x
    constructor
    · rintro ⟨_, _, h1⟩; exact this.1 h1
    · intro h1; exact ⟨Int.le_refl _, by decide, this.2 h1⟩
  rw [e]; rfl
theorem ex_first {c z : Int} {ok : Bool} (h : FirstR tAAB (litP ⟨#[98]⟩) 0 c z ok) : c = 2 ∧ z = 3 ∧ ok = true := by
  have hM : ∀ (j : Nat) (x : Int), (litP ⟨#[98]⟩).M tAAB j x ↔ x = j + 1 ∧ hasB tAAB (byteP 98).set j = true := fun j x => by
    rw [lit_M]
    constructor
    · rintro ⟨_, h2, h3⟩; exact ⟨h2, (BB_iff _ _ _).1 h3⟩
    · rintro ⟨h2, h3⟩; exact ⟨by omega, h2, (BB_iff _ _ _).2 h3⟩
  have h2 : (litP ⟨#[98]⟩).M tAAB ((2 : Nat) : Int) 3 := (hM 2 3).2 ⟨by decide, by decide⟩
  rcases h with ⟨rfl, h3, h4, h5, h6⟩ | ⟨rfl, rfl, rfl, h6⟩
  · have hc : c ≤ 2 := by
      by_cases hc : c ≤ 2
      · exact hc
      · exact absurd h2 (h6 2 (by decide) (by omega) 3)
    obtain ⟨_, _, h7, _⟩ := h5.some
    obtain ⟨k, rfl⟩ : ∃ k : Nat, c = k := ⟨c.toNat, by omega⟩
    obtain ⟨h8, h9⟩ := (hM k z).1 h7
    have hk : k ≤ 2 := by omega
    have hk2 : k = 2 := by
      have : k = 0 ∨ k = 1 ∨ k = 2 := by omega
      rcases this with rfl | rfl | rfl
      · revert h9; decide
      · revert h9; decide
      · rfl
    subst hk2
    exact ⟨rfl, by omega, rfl⟩
  · exact absurd h2 (h6 2 (by decide) (by decide) 3)
theorem ex_cut : cutS tXAAY (lg tXAAY (starP 97)) tXAAY.size 0 0 = [⟨#[120]⟩, ⟨#[121]⟩] := by
  have l0 := lg_eq (star_long tXAAY 97 0 0 (by omega) (by decide) (run_of (by decide)) (by decide))
  have l1 := lg_eq (star_long tXAAY 97 1 3 (by omega) (by decide) (run_of (by decide)) (by decide))
  have l3 := lg_eq (star_long tXAAY 97 3 3 (by omega) (by decide) (run_of (by decide)) (by decide))
  show cutS tXAAY (lg tXAAY (starP 97)) 4 0 0 = _
  rw [cutS, l0, if_neg (by decide), cutS, l1, if_pos (by decide), cutS, if_neg (by rintro ⟨h, _⟩; revert h; decide), cutS, l3, if_neg (by decide), cutS]
  decide
theorem ex_whole : (starP 97).M ⟨#[97, 97]⟩ 0 ((⟨#[97, 97]⟩ : ByteArray).size) := (star_at ⟨#[97, 97]⟩ 97 0 2 (by omega) (run_of (by decide)) (by decide) _).2 ⟨by decide, by decide⟩
theorem ex_part : ¬ (starP 97).M ⟨#[97, 98]⟩ 0 ((⟨#[97, 98]⟩ : ByteArray).size) := fun h => by
  have := ((star_at ⟨#[97, 98]⟩ 97 0 1 (by omega) (run_of (by decide)) (by decide) _).1 h).2
  revert this; decide
end Go.Proofs.YtooaamepflkgnaaDoor
set_option maxRecDepth 100000
namespace Go.Proofs.YtooaamepflkgnaaDoor
open Go.RowKit

theorem star_fine (s : ByteArray) (c : UInt8) (hs : s.size ≤ 90) : Fine s (starP c) := ⟨hs, rfl, by simp [starP, litP, byteP, Pat.size, Pat.sizes]⟩
theorem lit_fine (s : ByteArray) (c : UInt8) (hs : s.size ≤ 90) : Fine s (litP ⟨#[c]⟩) := ⟨hs, rfl, by simp [litP, byteP, Pat.size, Pat.sizes]⟩
theorem lit_one (c : UInt8) (w : World) : Calls Tryd.prog 19 #[.string ⟨#[c]⟩] w fun e w' => ∃ q a n, e = .returned (.agg #[.int .i64 q.op, .int .u64 (wd q.set 0), .int .u64 (wd q.set 1), .int .u64 (wd q.set 2), .int .u64 (wd q.set 3), .int .i64 q.lo, .int .i64 q.hi, .slice a q.kids.length n]) ∧ Hid (q = litP ⟨#[c]⟩) ∧ Hid (Kids w' q.kids (.slice a q.kids.length n)) ∧ Hid (Below w.heap.size w w') := by
  refine (rlit_any ⟨#[c]⟩ w (by show (1 : Nat) ≤ 1000; omega)).mono ?_
  rintro e w' ⟨ks, rfl, hk, hb⟩
  obtain ⟨a, n, rfl⟩ := hk.kids.len
  exact ⟨_, a, n, rfl, rfl, hk.kids, hb⟩
theorem rep_star (c : UInt8) (q : Pat) (a : Option Addr) (n : Nat) (w : World) (hq : q = litP ⟨#[c]⟩) (hk : Kids w q.kids (.slice a q.kids.length n)) : Calls Tryd.prog 18 #[(.agg #[.int .i64 q.op, .int .u64 (wd q.set 0), .int .u64 (wd q.set 1), .int .u64 (wd q.set 2), .int .u64 (wd q.set 3), .int .i64 q.lo, .int .i64 q.hi, .slice a q.kids.length n]), .int .i64 0, .int .i64 (-1)] w fun e w' => ∃ p a n, e = .returned (.agg #[.int .i64 p.op, .int .u64 (wd p.set 0), .int .u64 (wd p.set 1), .int .u64 (wd p.set 2), .int .u64 (wd p.set 3), .int .i64 p.lo, .int .i64 p.hi, .slice a p.kids.length n]) ∧ Hid (p = starP c) ∧ Hid (Kids w' p.kids (.slice a p.kids.length n)) ∧ Hid (Below w.heap.size w w') := by
  refine (rrep_any q _ 0 (-1) w hk).mono ?_
  rintro e w' ⟨ks, rfl, hk2, hb⟩
  obtain ⟨a, n, rfl⟩ := hk2.len
  exact ⟨Pat.mk 3 0 0 (-1) [q], a, n, rfl, by rw [Hid, hq]; rfl, hk2, hb⟩
theorem cells8 {w : World} {b : Nat} {p : Pat} {ks : Value} (h : w.heap[b]? = some (.cells #[.int .i64 p.op, .int .u64 (wd p.set 0), .int .u64 (wd p.set 1), .int .u64 (wd p.set 2), .int .u64 (wd p.set 3), .int .i64 p.lo, .int .i64 p.hi, ks] 28 (0, 0))) : w.cell? ⟨b, 0, none⟩ = some (.int .i64 p.op) ∧ w.cell? ⟨b, 1, none⟩ = some (.int .u64 (wd p.set 0)) ∧ w.cell? ⟨b, 2, none⟩ = some (.int .u64 (wd p.set 1)) ∧ w.cell? ⟨b, 3, none⟩ = some (.int .u64 (wd p.set 2)) ∧ w.cell? ⟨b, 4, none⟩ = some (.int .u64 (wd p.set 3)) ∧ w.cell? ⟨b, 5, none⟩ = some (.int .i64 p.lo) ∧ w.cell? ⟨b, 6, none⟩ = some (.int .i64 p.hi) ∧ w.cell? ⟨b, 7, none⟩ = some ks :=
  ⟨(cell_of_row _ _ 0 _ _ _ h).trans rfl, (cell_of_row _ _ 1 _ _ _ h).trans rfl, (cell_of_row _ _ 2 _ _ _ h).trans rfl, (cell_of_row _ _ 3 _ _ _ h).trans rfl, (cell_of_row _ _ 4 _ _ _ h).trans rfl, (cell_of_row _ _ 5 _ _ _ h).trans rfl, (cell_of_row _ _ 6 _ _ _ h).trans rfl, (cell_of_row _ _ 7 _ _ _ h).trans rfl⟩
theorem rdv_new (W : World) (l : List Value) (t : TypeId) (n : Nat) (hn : l.length = n) : RdV (W.alloc (.cells l.toArray t)) (.slice (some ⟨W.heap.size, 0, none⟩) n n) l := by
  subst hn
  refine .inr ⟨_, 0, _, rfl, fun i hi => ?_⟩
  rw [cell_of_row _ _ _ _ _ _ (heap_alloc_new W _), Nat.zero_add]
  simp [hi]
set_option maxHeartbeats 1000000 in
theorem awake_any (w : World) : Calls Tryd.prog 7 #[] w fun e w' => e = .returned (.bool true) ∧ Below w.heap.size w w' := by
  have mixed : Tryd.prog.follows .mixedOrders = true := by kernel_rfl
  go_enter Tryd.func7, Tryd.ntmps7
  go_upto_region 2 with (first
    | (go_at_call 19; (with_reducible refine (lit_one 97 w).mono ?_); rintro e w2 ⟨q, aq, nq, rfl, HQ, HKQ, HB2⟩)
    | (go_at_call 18; (with_reducible refine (rep_star 97 q aq nq w2 HQ.out HKQ.out).mono ?_); rintro e w3 ⟨p, ap, np, rfl, HP, HKP, HB3⟩))
  obtain ⟨na, hna⟩ : ∃ na, w3.heap.size = na := ⟨_, rfl⟩
  obtain ⟨w4, hw4⟩ : ∃ w4, w3.alloc (.cells #[.int .i64 p.op, .int .u64 (wd p.set 0), .int .u64 (wd p.set 1), .int .u64 (wd p.set 2), .int .u64 (wd p.set 3), .int .i64 p.lo, .int .i64 p.hi, .slice ap p.kids.length np] 28) = w4 := ⟨_, rfl⟩
  have HBX : Hid (w4.heap[na]? = some (.cells #[.int .i64 p.op, .int .u64 (wd p.set 0), .int .u64 (wd p.set 1), .int .u64 (wd p.set 2), .int .u64 (wd p.set 3), .int .i64 p.lo, .int .i64 p.hi, .slice ap p.kids.length np] 28 (0, 0))) := Lib.hid (by rw [← hw4, ← hna]; exact heap_alloc_new w3 _)
  have HB4 : Hid (Below w.heap.size w w4) := Lib.hid (by
    have h1 := HB2.out.trans (HB3.out.mono HB2.out.size)
    exact h1.trans (by rw [← hw4]; exact (below_one w3 _).mono h1.size))
  have HK4 : Hid (Kids w4 p.kids (.slice ap p.kids.length np)) := Lib.hid (HKP.out.below (by rw [← hw4]; exact below_one w3 _))
  have CELLS : Hid (∀ W, Below w4.heap.size w4 W → (W.cell? ⟨na, 0, none⟩ = some (.int .i64 p.op) ∧ W.cell? ⟨na, 1, none⟩ = some (.int .u64 (wd p.set 0)) ∧ W.cell? ⟨na, 2, none⟩ = some (.int .u64 (wd p.set 1)) ∧ W.cell? ⟨na, 3, none⟩ = some (.int .u64 (wd p.set 2)) ∧ W.cell? ⟨na, 4, none⟩ = some (.int .u64 (wd p.set 3)) ∧ W.cell? ⟨na, 5, none⟩ = some (.int .i64 p.lo) ∧ W.cell? ⟨na, 6, none⟩ = some (.int .i64 p.hi) ∧ W.cell? ⟨na, 7, none⟩ = some (.slice ap p.kids.length np)) ∧ Hid (Kids W p.kids (.slice ap p.kids.length np))) := Lib.hid fun W hb => ⟨cells8 ((hb.block na (lt_of_block HBX.out)).trans HBX.out), HK4.out.below hb⟩
  rw [hw4, hna]
  clear hw4 hna
  have hfine : ∀ s : ByteArray, s.size ≤ 90 → Fine s p := fun s hs => by rw [HP.out]; exact star_fine s 97 hs
  have HFINE := Lib.hid hfine
  clear hfine
  go_upto_region 3 with (first
    | (go_at_call 19; (with_reducible refine (lit_one 98 w4).mono ?_); rintro e w9 ⟨q2, aq2, nq2, rfl, HQ2, HKQ2, HB9⟩; have HFI := Lib.hid (First_any tAAB q2 _ 0 w9 (by rw [HQ2.out]; exact lit_fine tAAB 98 (by decide)) HKQ2.out))
    | (go_at_call 9; (with_reducible refine HFI.out.mono ?_); rintro e w10 ⟨c, z, ok, rfl, hfr, hb10⟩; rw [HQ2.out] at hfr; obtain ⟨rfl, rfl, rfl⟩ := ex_first hfr; have HB10 := Lib.hid hb10; clear hfr hb10))
  have HW10 : Hid (Below w4.heap.size w4 w10) := Lib.hid (HB9.out.trans (HB10.out.mono HB9.out.size))
  obtain ⟨⟨x0, x1, x2, x3, x4, x5, x6, x7⟩, HK10⟩ := CELLS.out w10 HW10.out
  have HLO := Lib.hid (Longest_any tAAB p _ 0 w10 (HFINE.out tAAB (by decide)) HK10.out (by omega))
  go_upto_region 4 with (go_at_call 20; (with_reducible refine HLO.out.mono ?_); rintro e w11 ⟨z, ok, rfl, hlr, hb11⟩; rw [HP.out] at hlr; obtain ⟨rfl, rfl⟩ := ex_long hlr; have HB11 := Lib.hid hb11; clear hlr hb11)
  clear x0 x1 x2 x3 x4 x5 x6 x7
  have HW11 : Hid (Below w4.heap.size w4 w11) := Lib.hid (HW10.out.trans (HB11.out.mono HW10.out.size))
  obtain ⟨⟨x0, x1, x2, x3, x4, x5, x6, x7⟩, HK11⟩ := CELLS.out w11 HW11.out
  have HEN := Lib.hid (Ends_any tAAB p _ 0 w11 (HFINE.out tAAB (by decide)) HK11.out (by omega))
  go_wp2_with (first
    | (go_at_call 22; (with_reducible refine HEN.out.mono ?_); rintro e w12 ⟨v, L, rfl, hrd, hN, hI, hx, hb12⟩; rw [HP.out] at hx; have hin := ex_ends hN hx; rw [hin] at hrd; have hal := below_one w12 (.cells #[.int .i64 0, .int .i64 1, .int .i64 2] 3); have hsa := rsameI_any v (.slice (some ⟨w12.heap.size, 0, none⟩) 3 3) [0, 1, 2] [0, 1, 2] _ (by decide) (by decide) (hrd.below hal) (rdv_new w12 _ 3 3 rfl); rw [decide_eq_true rfl] at hsa; have HSA := Lib.hid hsa; have HB13 := Lib.hid (HW11.out.trans ((hb12.trans (hal.mono hb12.size)).mono HW11.out.size)); clear hrd hN hI hx hb12 hin hal hsa x0 x1 x2 x3 x4 x5 x6 x7)
    | (go_at_call 21; (with_reducible refine HSA.out.mono ?_); rintro e w14 ⟨rfl, hb14⟩; have HW14 := Lib.hid (HB13.out.trans (hb14.mono HB13.out.size)); obtain ⟨⟨x0, x1, x2, x3, x4, x5, x6, x7⟩, HK14⟩ := CELLS.out w14 HW14.out; have HWH := Lib.hid (Whole_any ⟨#[97, 97]⟩ p _ w14 (HFINE.out _ (by decide)) HK14.out); clear hb14)
    | (go_at_call 14; (with_reducible refine HWH.out.mono ?_); rintro e w15 ⟨r, rfl, hr, hb15⟩; rw [HP.out] at hr; obtain rfl := hr.2 ex_whole; have HW15 := Lib.hid (HW14.out.trans (hb15.mono HW14.out.size)); clear x0 x1 x2 x3 x4 x5 x6 x7; obtain ⟨⟨x0, x1, x2, x3, x4, x5, x6, x7⟩, HK15⟩ := CELLS.out w15 HW15.out; have HWP := Lib.hid (Whole_any ⟨#[97, 98]⟩ p _ w15 (HFINE.out _ (by decide)) HK15.out); clear hr hb15)
    | (go_at_call 14; (with_reducible refine HWP.out.mono ?_); rintro e w16 ⟨r, rfl, hr, hb16⟩; rw [HP.out] at hr; obtain rfl : r = false := (by cases r; rfl; exact absurd (hr.1 rfl) ex_part); have HW16 := Lib.hid (HW15.out.trans (hb16.mono HW15.out.size)); clear x0 x1 x2 x3 x4 x5 x6 x7; obtain ⟨⟨x0, x1, x2, x3, x4, x5, x6, x7⟩, HK16⟩ := CELLS.out w16 HW16.out; have HCU := Lib.hid (Cut_any tXAAY p _ w16 (HFINE.out _ (by decide)) HK16.out); clear hr hb16)
    | (go_at_call 12; (with_reducible refine HCU.out.mono ?_); rintro e w17 ⟨v2, rfl, hrd, hb17⟩; rw [HP.out, ex_cut] at hrd; have hal := below_one w17 (.cells #[.string ⟨#[120]⟩, .string ⟨#[121]⟩] 9); have hsa := rsameT_any v2 (.slice (some ⟨w17.heap.size, 0, none⟩) 2 2) [⟨#[120]⟩, ⟨#[121]⟩] [⟨#[120]⟩, ⟨#[121]⟩] _ (by decide) (by decide) (hrd.below hal) (rdv_new w17 _ 9 2 rfl); rw [decide_eq_true rfl] at hsa; have HST := Lib.hid hsa; have HB18 := Lib.hid (HW16.out.trans ((hb17.trans (hal.mono hb17.size)).mono HW16.out.size)); clear hrd hb17 hal hsa x0 x1 x2 x3 x4 x5 x6 x7)
    | (go_at_call 11; (with_reducible refine HST.out.mono ?_); rintro e w19 ⟨rfl, hb19⟩; have HW19 := Lib.hid (HB18.out.trans (hb19.mono HB18.out.size)); clear hb19))
  go_ret
  exact ⟨rfl, HB4.out.trans (HW19.out.mono HB4.out.size)⟩
end Go.Proofs.YtooaamepflkgnaaDoor
