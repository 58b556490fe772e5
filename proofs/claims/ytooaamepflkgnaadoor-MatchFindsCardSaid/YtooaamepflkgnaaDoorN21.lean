/- Texts that a proof rests on: The parts in memory; what is known of them. | The contract of row. | The contract of either. | Ranges over the numbers of a set; the contract of oneByte. | A region that draws, in a round: as outside of it. -/
import Derived.Test.YtooaamepflkgnaaDoorN20
import Derived.MapKept
import Derived.WalkSmall
import Derived.Deep.RegionHeld3
set_option maxRecDepth 20000
namespace Go.Proofs.YtooaamepflkgnaaDoor
open Go.RowKit

/-- A matcher. -/
abbrev mV (rv : Value) (s : ByteArray) : Value := .agg #[rv, .string s]
abbrev pV (b : Nat) : Value := .pointer (some ⟨b, 0, none⟩)
/-- A slice of pointers. -/
def PtrsAt (w : World) (mb : Nat → Option Pat) (ks : Value) (bs : List Nat) : Prop :=
  (ks = .slice none 0 0 ∧ bs = []) ∨ ∃ kb ko cap, ks = .slice (some ⟨kb, ko, none⟩) bs.length cap ∧ (bs ≠ [] ∧ mb kb = none) ∧ ∀ i (h : i < bs.length), w.cell? ⟨kb, ko + i, none⟩ = some (pV bs[i])
/-- How often at least a part is asked for. -/
def leastN (p : Pat) : Int := if p.op = 3 ∧ p.nul = true then 0 else p.lo
/-- Does a part keep what is known of it? -/
def keeps (p : Pat) (rep : Bool) : Bool := p.op == 4 || p.op == 5 || (p.op == 3 && rep)
def knownV (kn : Option Nat) : Value := .map kn
abbrev partC (p : Pat) (ks : Value) (kn : Option Nat) : Array Value := #[.int .i64 p.op, .int .u64 (wd p.set 0), .int .u64 (wd p.set 1), .int .u64 (wd p.set 2), .int .u64 (wd p.set 3), .int .i64 (leastN p), .int .i64 p.hi, ks, .map kn]
mutual
def TreeP (w : World) (mb : Nat → Option Pat) : Pat → Bool → Nat → Prop
  | .mk op c lo hi kids, rep, b => ∃ (ks : Value) (kn : Option Nat) (bs : List Nat), w.heap[b]? = some (.cells (partC (.mk op c lo hi kids) ks kn) 69 (0, 0)) ∧ mb b = none ∧
      (if keeps (.mk op c lo hi kids) rep = true then ∃ m, kn = some m ∧ mb m = some (.mk op c lo hi kids) else kn = none) ∧ PtrsAt w mb ks bs ∧ TreeL w mb kids (rep || op == 3) bs
def TreeL (w : World) (mb : Nat → Option Pat) : List Pat → Bool → List Nat → Prop
  | [], _, bs => bs = []
  | p :: ps, rep, bs => ∃ b bs', bs = b :: bs' ∧ TreeP w mb p rep b ∧ TreeL w mb ps rep bs'
end
theorem TreeP_eq (w : World) (mb : Nat → Option Pat) (p : Pat) (rep : Bool) (b : Nat) : TreeP w mb p rep b ↔ ∃ (ks : Value) (kn : Option Nat) (bs : List Nat), w.heap[b]? = some (.cells (partC p ks kn) 69 (0, 0)) ∧ mb b = none ∧
      (if keeps p rep = true then ∃ m, kn = some m ∧ mb m = some p else kn = none) ∧ PtrsAt w mb ks bs ∧ TreeL w mb p.kids (rep || p.op == 3) bs := by
  cases p; rw [TreeP]; rfl
theorem TreeL_at {w : World} {mb : Nat → Option Pat} {rep : Bool} : ∀ {l : List Pat} {bs : List Nat}, TreeL w mb l rep bs → bs.length = l.length ∧ ∀ i (h : i < l.length) (h' : i < bs.length), TreeP w mb l[i] rep bs[i]
  | [], bs, h => by rw [TreeL] at h; subst h; exact ⟨rfl, fun i h => by simp at h⟩
  | p :: l, bs, h => by
    rw [TreeL] at h
    obtain ⟨b, bs', rfl, h1, h2⟩ := h
    have ih := TreeL_at h2
    refine ⟨by simp [ih.1], fun i hi hi' => ?_⟩
    cases i with
    | zero => exact h1
    | succ i => exact ih.2 i (by simpa using hi) (by simpa using hi')
def Xm (mb : Nat → Option Pat) : Nat → Prop := fun k => mb k ≠ none
theorem PtrsAt.out {w w' : World} {mb : Nat → Option Pat} {ks : Value} {bs : List Nat} (h : PtrsAt w mb ks bs) (ho : Out (Xm mb) w w') : PtrsAt w' mb ks bs := by
  rcases h with h | ⟨kb, ko, cap, e, hn, hr⟩
  · exact .inl h
  · exact .inr ⟨kb, ko, cap, e, hn, fun i hi => ho.cell (hr i hi) (fun hx => hx hn.2)⟩
theorem TreeP.out {w w' : World} {mb : Nat → Option Pat} (ho : Out (Xm mb) w w') (p : Pat) : ∀ {rep : Bool} {b : Nat}, TreeP w mb p rep b → TreeP w' mb p rep b := by
  induction p using Pat.by_size with | h p ih => ?_
  intro rep b h
  rw [TreeP_eq] at h ⊢
  obtain ⟨ks, kn, bs, h1, h2, h3, h4, h5⟩ := h
  refine ⟨ks, kn, bs, (ho.block b (lt_of_block h1) (fun hx => hx h2)).trans h1, h2, h3, h4.out ho, ?_⟩
  have key : ∀ (l : List Pat) (bs : List Nat), (∀ q ∈ l, q ∈ p.kids) → TreeL w mb l (rep || p.op == 3) bs → TreeL w' mb l (rep || p.op == 3) bs := by
    intro l
    induction l with
    | nil => intro bs _ h; rw [TreeL] at h ⊢; exact h
    | cons q l ihl =>
      intro bs hm h
      rw [TreeL] at h ⊢
      obtain ⟨b', bs', e, g1, g2⟩ := h
      exact ⟨b', bs', e, ih q (hm q (by simp)) g1, ihl bs' (fun x hx => hm x (by simp [hx])) g2⟩
  exact key p.kids bs (fun _ h => h) h5
theorem TreeL.out {w w' : World} {mb : Nat → Option Pat} {rep : Bool} (ho : Out (Xm mb) w w') : ∀ {l : List Pat} {bs : List Nat}, TreeL w mb l rep bs → TreeL w' mb l rep bs
  | [], bs, h => by rw [TreeL] at h ⊢; exact h
  | p :: l, bs, h => by
    rw [TreeL] at h ⊢
    obtain ⟨b, bs', e, h1, h2⟩ := h
    exact ⟨b, bs', e, TreeP.out ho p h1, TreeL.out ho h2⟩
/-- The digits of a number below a hundred. -/
def dec (n : Nat) : List UInt8 := if n < 10 then [UInt8.ofNat (48 + n)] else [UInt8.ofNat (48 + n / 10), UInt8.ofNat (48 + n % 10)]
/-- What stands for a set. -/
def txtL (K : List (Int × Int)) : List UInt8 := K.flatMap (fun r => dec r.1.toNat ++ 45 :: (dec r.2.toNat ++ [32]))
def txt (K : List (Int × Int)) : ByteArray := ⟨(txtL K).toArray⟩
/-- From these places on exactly these ends. -/
def EndsOf (s : ByteArray) (R : Int → Int → Prop) (K L : List (Int × Int)) : Prop := Nrm L ∧ In s.size L ∧ ∀ x, mem L x ↔ ∃ i, mem K i ∧ R i x
/-- What a map knows of a part. -/
def MemoAt (s : ByteArray) (X : Nat → Prop) (w : World) (m : Nat) (p : Pat) : Prop := ∃ (es : Array MapEntry) (c : Nat), w.heap[m]? = some (.map es c) ∧
  ∀ e ∈ es.toList, ∃ K v L, e.key = .string (txt K) ∧ e.val = .agg #[v] ∧ Nrm K ∧ In s.size K ∧ Rn w X v L ∧ EndsOf s (p.M s) K L
def Memos (s : ByteArray) (mb : Nat → Option Pat) (X : Nat → Prop) (w : World) : Prop := ∀ m p, mb m = some p → MemoAt s X w m p
theorem Memos.block {s : ByteArray} {mb : Nat → Option Pat} {X : Nat → Prop} {w : World} (h : Memos s mb X w) {k : Nat} (hk : Xm mb k) : ∃ es c, w.heap[k]? = some (.map es c) := by
  unfold Xm at hk
  obtain ⟨p, hp⟩ := Option.ne_none_iff_exists'.1 hk
  obtain ⟨es, c, h1, _⟩ := h k p hp
  exact ⟨es, c, h1⟩
theorem Memos.lt {s : ByteArray} {mb : Nat → Option Pat} {X : Nat → Prop} {w : World} (h : Memos s mb X w) {k : Nat} (hk : Xm mb k) : k < w.heap.size := by
  obtain ⟨es, c, h1⟩ := h.block hk; exact lt_of_block h1
theorem Memos.not_cells {s : ByteArray} {mb : Nat → Option Pat} {X : Nat → Prop} {w : World} (h : Memos s mb X w) {k : Nat} {o : Obj} (hk : w.heap[k]? = some o) (ho : o.isCells = true) : ¬ Xm mb k := fun hx => by
  obtain ⟨es, c, h1⟩ := h.block hx
  rw [hk] at h1; cases h1; cases ho
/-- Memos where all maps lie as they lay, and all rows do. -/
theorem Memos.map {s : ByteArray} {mb : Nat → Option Pat} {X Y : Nat → Prop} {w w' : World} (h : Memos s mb X w) (hm : ∀ k, Xm mb k → w'.heap[k]? = w.heap[k]?) (hr : ∀ v L, Rn w X v L → Rn w' Y v L) : Memos s mb Y w' := by
  intro m p hp
  obtain ⟨es, c, h1, h2⟩ := h m p hp
  refine ⟨es, c, (hm m (by unfold Xm; rw [hp]; simp)).trans h1, fun e he => ?_⟩
  obtain ⟨K, v, L, a, b, c, d, r, f⟩ := h2 e he
  exact ⟨K, v, L, a, b, c, d, hr v L r, f⟩
theorem Memos.weak {s : ByteArray} {mb : Nat → Option Pat} {X Y : Nat → Prop} {w : World} (h : Memos s mb X w) (hxy : ∀ k, k < w.heap.size → Y k → X k) : Memos s mb Y w :=
  h.map (fun _ _ => rfl) (fun _ _ hr => hr.weak hxy)
theorem Memos.below {s : ByteArray} {mb : Nat → Option Pat} {X : Nat → Prop} {w w' : World} (h : Memos s mb X w) (hb : Below w.heap.size w w') : Memos s mb X w' :=
  h.map (fun k hk => hb.block k (h.lt hk)) (fun _ _ hr => hr.below hb)
theorem Memos.out {s : ByteArray} {mb : Nat → Option Pat} {X Y : Nat → Prop} {w w' : World} (h : Memos s mb X w) (ho : Out Y w w') (hy : ∀ k, k < w.heap.size → Y k → X k ∧ mb k = none) : Memos s mb X w' :=
  h.map (fun k hk => ho.block k (h.lt hk) fun hyk => hk (hy k (h.lt hk) hyk).2) (fun _ _ hr => hr.out ho (fun k hk h => (hy k hk h).1))
theorem SetB.not_map {s : ByteArray} {mb : Nat → Option Pat} {X : Nat → Prop} {w : World} {bp base : Nat} {v : Value} {J : List (Int × Int)} (hs : SetB w bp base v J) (h : Memos s mb X w) {k : Nat} (hk : Priv bp v k) : mb k = none := by
  by_cases hx : Xm mb k
  · exfalso
    rcases hk with rfl | e
    · exact h.not_cells hs.1 rfl hx
    · rcases hs.2.1.2 with ⟨rfl, _⟩ | ⟨g, cap, cur, rfl, _, hg, _⟩
      · simp [Value.ownBlock] at e
      · obtain rfl : g = k := by simpa [Value.ownBlock] using e
        exact h.not_cells hg rfl hx
  · unfold Xm at hx; simpa using hx
/-- What a function of matching gives. -/
def Post (s : ByteArray) (mb : Nat → Option Pat) (X : Nat → Prop) (R : Int → Int → Prop) (K : List (Int × Int)) (w : World) (e : Ending) (w' : World) : Prop :=
  ∃ a n c L, e = .returned (.agg #[.slice a n c]) ∧ Rn w' X (.slice a n c) L ∧ EndsOf s R K L ∧ Out (Xm mb) w w' ∧ Memos s mb X w'
/-- What it wants. -/
structure Pre (s : ByteArray) (mb : Nat → Option Pat) (X : Nat → Prop) (v : Value) (K : List (Int × Int)) (w : World) : Prop where
  sz : s.size ≤ 90
  xm : ∀ k, Xm mb k → X k
  lt : ∀ k, X k → k < w.heap.size
  rn : Rn w X v K
  nrm : Nrm K
  inn : In s.size K
  memo : Memos s mb X w
/-- A variable of a set of one's own, while it grows. -/
structure Var (s : ByteArray) (mb : Nat → Option Pat) (X : Nat → Prop) (bp : Nat) (J : List (Int × Int)) (w : World) : Prop where
  set : ∃ v, SetB w bp (bp + 1) v J
  nrm : Nrm J
  inn : In s.size J
  xm : ∀ k, Xm mb k → X k
  lt : ∀ k, X k → k < bp
  memo : Memos s mb (Bad bp X w) w
theorem Var.size {s : ByteArray} {mb : Nat → Option Pat} {X : Nat → Prop} {bp : Nat} {J : List (Int × Int)} {w : World} (h : Var s mb X bp J w) : bp < w.heap.size := by
  obtain ⟨v, hs⟩ := h.set; exact hs.lt
theorem Var.fit {s : ByteArray} {mb : Nat → Option Pat} {X : Nat → Prop} {bp : Nat} {J : List (Int × Int)} {w : World} (h : Var s mb X bp J w) : Fit bp X w := by
  obtain ⟨v, hs⟩ := h.set
  exact hs.fit (fun k hk => by have := h.lt k hk; have := hs.lt; omega)
theorem Var.new {s : ByteArray} {mb : Nat → Option Pat} {X : Nat → Prop} {w : World} {bp : Nat} {t : Value} (hmem : Memos s mb X w) (hx : ∀ k, Xm mb k → X k) (hlt : ∀ k, X k → k < bp) (hw : w.heap.size = bp) (ht : t = .slice none 0 0) : Var s mb X bp [] (w.alloc (.cells #[t] 61)) := by
  subst ht
  have hs := SetB.new w hw
  refine ⟨⟨_, hs⟩, .nil, In.nil _, hx, hlt, ?_⟩
  refine (hmem.weak fun k hk hb => ?_).below (below_one w _)
  rcases hb with e | e | e
  · omega
  · rw [hs.ownAt] at e; simp [Value.ownBlock] at e
  · exact e
theorem Var.below {s : ByteArray} {mb : Nat → Option Pat} {X : Nat → Prop} {bp : Nat} {J : List (Int × Int)} {w w' : World} (h : Var s mb X bp J w) (hb : Below w.heap.size w w') : Var s mb X bp J w' := by
  have hsz := h.size
  obtain ⟨v, hs⟩ := h.set
  refine ⟨⟨v, hs.below hb⟩, h.nrm, h.inn, h.xm, h.lt, ?_⟩
  have e : ownAt w' bp = ownAt w bp := ownAt_below hb hsz
  exact (h.memo.below hb).weak fun k _ hk => by unfold Bad at hk ⊢; rw [e] at hk; exact hk
/-- Behind a call: the set as it was. -/
theorem Var.call {s : ByteArray} {mb : Nat → Option Pat} {X : Nat → Prop} {bp : Nat} {J : List (Int × Int)} {w w' : World} (h : Var s mb X bp J w) (ho : Out (Xm mb) w w') (hm : Memos s mb (Bad bp X w) w') : Var s mb X bp J w' ∧ ∀ k, Bad bp X w' k ↔ Bad bp X w k := by
  obtain ⟨v, hs⟩ := h.set
  have hs' : SetB w' bp (bp + 1) v J := hs.out ho fun k hk hx => hx (hs.not_map h.memo hk)
  have e : ownAt w' bp = ownAt w bp := by rw [hs.ownAt, hs'.ownAt]
  have hB : ∀ k, Bad bp X w' k ↔ Bad bp X w k := fun k => by unfold Bad; rw [e]
  exact ⟨⟨⟨v, hs'⟩, h.nrm, h.inn, h.xm, h.lt, hm.weak fun k _ hk => (hB k).1 hk⟩, hB⟩
/-- Behind a join. -/
theorem Var.added {s : ByteArray} {mb : Nat → Option Pat} {X : Nat → Prop} {bp : Nat} {J J' : List (Int × Int)} {w w' : World} {v : Value} (h : Var s mb X bp J w) (hs : SetB w bp (bp + 1) v J) (ha : Added bp (bp + 1) v J' w w') (hN : Nrm J') (hI : In s.size J') :
    Var s mb X bp J' w' ∧ Out (fun k => k = bp ∨ bp < k) w w' := by
  have hk := ha.keepV hs X
  have hs0 := hs
  obtain ⟨v', hs', ho, hown⟩ := ha
  refine ⟨⟨⟨v', hs'⟩, hN, hI, h.xm, h.lt, h.memo.map (fun k hx => ho.block k (h.memo.lt hx) fun hp => hx (hs0.not_map h.memo hp)) fun v L hr => hk.rn hr⟩, ho.mono ?_⟩
  rintro k _ (e | e)
  · exact .inl e
  · have := (hs0.own e).1; exact .inr (by omega)
/-- A function's own boxes, too. -/
def Loc (X : Nat → Prop) (N B : Nat) : Nat → Prop := fun k => X k ∨ (N ≤ k ∧ k < B)
theorem Pre.loc {s : ByteArray} {mb : Nat → Option Pat} {X : Nat → Prop} {v : Value} {K : List (Int × Int)} {w w1 : World} (h : Pre s mb X v K w) (hb : Below w.heap.size w w1) {N B : Nat} (hN : w.heap.size = N) (hB : B ≤ w1.heap.size) : Pre s mb (Loc X N B) v K w1 := by
  subst hN
  have hx : ∀ k, k < w.heap.size → Loc X w.heap.size B k → X k := fun k hk hl => by
    rcases hl with h | h
    · exact h
    · omega
  exact ⟨h.sz, fun k hk => .inl (h.xm k hk), fun k hk => by
      rcases hk with e | e
      · have := h.lt k e; have := hb.size; omega
      · omega, (h.rn.weak hx).below hb, h.nrm, h.inn, (h.memo.weak hx).below hb⟩
theorem Pre.below {s : ByteArray} {mb : Nat → Option Pat} {X : Nat → Prop} {v : Value} {K : List (Int × Int)} {w w1 : World} (h : Pre s mb X v K w) (hb : Below w.heap.size w w1) : Pre s mb X v K w1 :=
  ⟨h.sz, h.xm, fun k hk => by have := h.lt k hk; have := hb.size; omega, h.rn.below hb, h.nrm, h.inn, h.memo.below hb⟩
theorem Pre.outM {s : ByteArray} {mb : Nat → Option Pat} {X : Nat → Prop} {v : Value} {K : List (Int × Int)} {w w1 : World} (h : Pre s mb X v K w) (ho : Out (Xm mb) w w1) (hm : Memos s mb X w1) : Pre s mb X v K w1 :=
  ⟨h.sz, h.xm, fun k hk => by have := h.lt k hk; have := ho.size; omega, h.rn.out ho (fun k _ hk => h.xm k hk), h.nrm, h.inn, hm⟩
theorem Pre.next {s : ByteArray} {mb : Nat → Option Pat} {X : Nat → Prop} {v u : Value} {R : Int → Int → Prop} {K L : List (Int × Int)} {w w1 : World} (h : Pre s mb X v K w) (hr : Rn w1 X u L) (he : EndsOf s R K L) (ho : Out (Xm mb) w w1) (hm : Memos s mb X w1) : Pre s mb X u L w1 :=
  ⟨h.sz, h.xm, fun k hk => by have := h.lt k hk; have := ho.size; omega, hr, he.1, he.2.1, hm⟩
theorem Pre.box {s : ByteArray} {mb : Nat → Option Pat} {X : Nat → Prop} {v : Value} {K : List (Int × Int)} {w : World} (h : Pre s mb X v K w) {b : Nat} (hb : X b) (hn : mb b = none) (u : Value) : Pre s mb X v K (w.setCell ⟨b, 0, none⟩ u) := by
  have ho : Out (fun k => k = b) w (w.setCell ⟨b, 0, none⟩ u) := Out.set (X := fun k => k = b) w 0 u rfl
  exact ⟨h.sz, h.xm, fun k hk => by have := h.lt k hk; have := ho.size; omega, h.rn.out ho (fun k _ e => by have e : k = b := e; rw [e]; exact hb), h.nrm, h.inn, h.memo.out ho (fun k _ e => by have e : k = b := e; rw [e]; exact ⟨hb, hn⟩)⟩
theorem Pre.new_none {s : ByteArray} {mb : Nat → Option Pat} {X : Nat → Prop} {v : Value} {K : List (Int × Int)} {w : World} (h : Pre s mb X v K w) {k : Nat} (hk : w.heap.size ≤ k) : mb k = none := by
  by_cases hx : Xm mb k
  · have := h.memo.lt hx; omega
  · unfold Xm at hx; simpa using hx
/-- The frame of a function with boxes of its own. -/
theorem frame_out {mb : Nat → Option Pat} {C : Nat → Prop} {w w1 wr : World} (hb : Below w.heap.size w w1) (ho : Out (fun k => Xm mb k ∨ C k) w1 wr) (hC : ∀ k, C k → w.heap.size ≤ k) : Out (Xm mb) w wr :=
  (Out.below hb).comp ho fun i hi h => by
    rcases h with h | h
    · exact h
    · have := hC i h; omega
theorem box_set {w : World} {b : Nat} {x : Value} {e : TypeId} (h : w.heap[b]? = some (.cells #[x] e (0, 0))) (u : Value) : (w.setCell ⟨b, 0, none⟩ u).heap[b]? = some (.cells #[u] e (0, 0)) := by
  have := setCell_block (i := 0) h u
  simpa using this
theorem fin_post {s : ByteArray} {mb : Nat → Option Pat} {X : Nat → Prop} {R : Int → Int → Prop} {v a : Value} {K L : List (Int × Int)} {N B n c : Nat} {p : Option Addr} {w wr : World} {r0 : Nat} (_h : Pre s mb X v K w) (ho : Out (Xm mb) w wr) (hN : w.heap.size = N) (ha : a = .slice p n c)
    (hr : Rn wr (Loc X N B) a L) (he : EndsOf s R K L) (hm : Memos s mb (Loc X N B) wr) (h1 : N ≤ r0) (h2 : r0 < B) (h3 : mb r0 = none) : Post s mb X R K w (.returned (.agg #[.slice p n c])) (wr.setCell ⟨r0, 0, none⟩ (.slice p n c)) := by
  subst ha hN
  have ho2 : Out (fun k => k = r0) wr (wr.setCell ⟨r0, 0, none⟩ (.slice p n c)) := Out.set (X := fun k => k = r0) wr 0 _ rfl
  have hl : ∀ k, k = r0 → Loc X w.heap.size B k := fun k e => by rw [e]; exact .inr ⟨h1, h2⟩
  refine ⟨p, n, c, L, rfl, (hr.out ho2 (fun k _ e => hl k e)).weak (fun k _ hk => .inl hk), he, ho.comp ho2 (fun i hi e => by have e : i = r0 := e; omega), (hm.out ho2 (fun k _ e => by have e : k = r0 := e; rw [e]; exact ⟨.inr ⟨h1, h2⟩, h3⟩)).weak (fun k _ hk => .inl hk)⟩
/-- A part matches from places in a text. -/
def EndsC (s : ByteArray) (mb : Nat → Option Pat) (p : Pat) (rep : Bool) (b : Nat) : Prop := ∀ (X : Nat → Prop) (w : World) (v rv : Value) (K : List (Int × Int)), Pre s mb X v K w → TreeP w mb p rep b →
  Calls Tryd.prog 36 #[mV rv s, pV b, .agg #[v]] w (Post s mb X (p.M s) K w)
theorem three_boxes (w : World) (x y z : Array Value) (e1 e2 e3 : TypeId) (n : Nat) (hn : w.heap.size = n) :
    Below n w (((w.alloc (.cells x e1)).alloc (.cells y e2)).alloc (.cells z e3)) ∧
    (((w.alloc (.cells x e1)).alloc (.cells y e2)).alloc (.cells z e3)).heap.size = n + 3 ∧
    (((w.alloc (.cells x e1)).alloc (.cells y e2)).alloc (.cells z e3)).heap[n]? = some (.cells x e1 (0, 0)) ∧
    (((w.alloc (.cells x e1)).alloc (.cells y e2)).alloc (.cells z e3)).heap[n + 1]? = some (.cells y e2 (0, 0)) ∧
    (((w.alloc (.cells x e1)).alloc (.cells y e2)).alloc (.cells z e3)).heap[n + 2]? = some (.cells z e3 (0, 0)) := by
  subst hn
  have s1 : (w.alloc (.cells x e1)).heap.size = w.heap.size + 1 := by simp
  have s2 : ((w.alloc (.cells x e1)).alloc (.cells y e2)).heap.size = w.heap.size + 2 := by simp
  have n1 := heap_alloc_new w (.cells x e1)
  have n2 := heap_alloc_new (w.alloc (.cells x e1)) (.cells y e2)
  have n3 := heap_alloc_new ((w.alloc (.cells x e1)).alloc (.cells y e2)) (.cells z e3)
  rw [s1] at n2
  rw [s2] at n3
  refine ⟨below3 w _ _ _, by simp, ?_, ?_, n3⟩
  · rw [heap_alloc_old _ _ (by omega), heap_alloc_old _ _ (by omega)]; exact n1
  · rw [heap_alloc_old _ _ (by omega)]; exact n2
theorem PtrsAt.form {w : World} {mb : Nat → Option Pat} {ks : Value} {bs : List Nat} (h : PtrsAt w mb ks bs) : ∃ a c, ks = .slice a bs.length c := by
  rcases h with ⟨rfl, rfl⟩ | ⟨kb, ko, cap, rfl, _⟩
  · exact ⟨_, _, rfl⟩
  · exact ⟨_, _, rfl⟩
theorem PtrsAt.at {w : World} {mb : Nat → Option Pat} {ks : Value} {bs : List Nat} (h : PtrsAt w mb ks bs) {i : Nat} (hi : i < bs.length) : ∃ kb ko cap, ks = .slice (some ⟨kb, ko, none⟩) bs.length cap ∧ w.cell? ⟨kb, ko + i, none⟩ = some (pV bs[i]) := by
  rcases h with ⟨_, rfl⟩ | ⟨kb, ko, cap, e, _, hr⟩
  · simp at hi
  · exact ⟨kb, ko, cap, e, hr i hi⟩
end Go.Proofs.YtooaamepflkgnaaDoor
set_option maxRecDepth 100000
namespace Go.Proofs.YtooaamepflkgnaaDoor
open Go.RowKit

theorem take_step {α : Type} (l : List α) (k : Nat) (h : k < l.length) : l.take (k + 1) = l.take k ++ [l[k]] := List.take_succ_eq_append_getElem h
set_option maxHeartbeats 2000000 in
theorem row_any (s : ByteArray) (mb : Nat → Option Pat) (l : List Pat) (rep : Bool) (bs : List Nat) (ks : Value) (hE : ∀ i (h : i < l.length) (h' : i < bs.length), EndsC s mb l[i] rep bs[i])
    (X : Nat → Prop) (w : World) (v rv : Value) (K : List (Int × Int)) (hp : Pre s mb X v K w) (hks : PtrsAt w mb ks bs) (ht : TreeL w mb l rep bs) (hl5 : l.length < 10000) :
    Calls Tryd.prog 43 #[mV rv s, ks, .agg #[v]] w (Post s mb X (rowM s l) K w) := by
  obtain ⟨a, c, rfl⟩ := hp.rn.len
  obtain ⟨ka, kc, rfl⟩ := hks.form
  obtain ⟨N, hN⟩ : ∃ N, w.heap.size = N := ⟨_, rfl⟩
  obtain ⟨hb1, hsz1, h0, h1, h2⟩ := three_boxes w #[rv, .string s] #[.slice a K.length c] #[.slice none 0 0] 53 61 61 N hN
  obtain ⟨w1, hw1⟩ : ∃ w1, w1 = ((w.alloc (.cells #[rv, .string s] 53)).alloc (.cells #[.slice a K.length c] 61)).alloc (.cells #[.slice none 0 0] 61) := ⟨_, rfl⟩
  rw [← hw1] at hb1 hsz1 h0 h1 h2
  have hb1' : Below w.heap.size w w1 := by rw [hN]; exact hb1
  have hp1 := hp.loc hb1' (N := N) (B := N + 1 + 1 + 1) hN (by omega)
  obtain ⟨hlen, htree⟩ := TreeL_at ht
  have hbl : bs.length < 10000 := by omega
  have HL := Lib.hid hlen
  have HP := Lib.hid hp
  have HP1 := Lib.hid hp1
  have HE := Lib.hid hE
  have HT := Lib.hid htree
  have HKS := Lib.hid hks
  have HB1 := Lib.hid hb1'
  have H0 := Lib.hid h0
  have H2 := Lib.hid h2
  have hm1 : mb (N + 1) = none := hp.new_none (by omega)
  have hm2 : mb (N + 1 + 1) = none := hp.new_none (by omega)
  have HM1 := Lib.hid hm1
  have HM2 := Lib.hid hm2
  have H1 := Lib.hid h1
  clear hlen hp hp1 hE ht htree hks hb1' h0 h1 h2 hm1 hm2 hb1
  go_enter Tryd.func43, Tryd.ntmps43
  go_wp2
  rw [← hw1]
  clear hw1
  go_loopw [11] (fun x wr => ∃ (k : Nat) (u : Value) (J : List (Int × Int)), x = .int .i64 k ∧ k ≤ bs.length ∧ wr.heap[N + 1]? = some (.cells #[u] 61 (0, 0)) ∧ Pre s mb (Loc X N (N + 1 + 1 + 1)) u J wr ∧ (∀ x, mem J x ↔ ∃ i, mem K i ∧ rowM s (l.take k) i x) ∧ Out (fun k => Xm mb k ∨ k = N + 1) w1 wr) (fun x _ => bs.length - (intOf x).toNat)
  case atStart => exact ⟨0, _, K, rfl, Nat.zero_le _, H1.out, HP1.out, fun x => by simp only [List.take_zero, rowM_nil]; exact ⟨fun h => ⟨x, h, rfl⟩, fun ⟨i, h, e⟩ => e ▸ h⟩, Out.refl _ _⟩
  case round =>
    obtain ⟨k, u, J, rfl, hk, hbu, hpr, hJ, hor⟩ := hrel
    have how : Out (Xm mb) w wr := frame_out HB1.out hor (fun k e => by have e : k = N + 1 := e; omega)
    have hc1 := box_cell hbu
    obtain ⟨c0, c1⟩ := pair_cells ((hor.block N (by omega) (by rintro (h | h); exact h (HP.out.new_none (by omega)); omega)).trans H0.out)
    obtain ⟨a5, c5, rfl⟩ := hpr.rn.len
    have HBU := Lib.hid hbu
    have HPR := Lib.hid hpr
    have HOR := Lib.hid hor
    have HOW := Lib.hid how
    have HJ := Lib.hid hJ
    clear hbu hpr hor how hJ H1 HP1
    by_cases hkl : k < bs.length
    · obtain ⟨kb, ko, cap, e, hx⟩ := (HKS.out.out HOW.out).at hkl
      cases e
      have HC := Lib.hid (HE.out k (by rw [← HL.out]; exact hkl) hkl _ wr _ rv J HPR.out (TreeP.out HOW.out _ (HT.out k (by rw [← HL.out]; exact hkl) hkl)))
      have HTK := Lib.hid (take_step l k (by rw [← HL.out]; exact hkl))
      generalize hbk : bs[k] = bk at hx HC
      go_wp2_with (go_at_call 36; refine HC.out.mono ?_; rintro e w3 ⟨a6, n6, c6, L6, rfl, hr6, he6, ho6, hm6⟩; have hbx := (ho6.block (N + 1) (lt_of_block HBU.out) (fun h => h HM1.out)).trans HBU.out; have hcx := box_cell hbx; have hfx := frozen_row (j := 0) hbx)
      go_roundw
      case rel =>
        refine ⟨k + 1, _, L6, num_succ k, by omega, box_set hbx _, (HPR.out.next hr6 he6 ho6 hm6).box (.inr ⟨by omega, by omega⟩) HM1.out _, fun x => ?_, ?_⟩
        · rw [he6.2.2, HTK.out]
          simp only [HJ.out, rowM_append, rowM_one]
          exact ⟨fun ⟨i, ⟨j, h1, h2⟩, h3⟩ => ⟨j, h1, i, h2, h3⟩, fun ⟨j, h1, i, h2, h3⟩ => ⟨i, ⟨j, h1, h2⟩, h3⟩⟩
        · exact (HOR.out.comp ho6 fun i _ h => .inl h).comp (Out.set (X := fun k => k = N + 1) w3 0 _ rfl) fun i _ h => .inr h
      case measure => simp [intOf]; omega
    · obtain rfl : k = bs.length := by omega
      have hall : l.take bs.length = l := by rw [HL.out, List.take_length]
      have hr9 : wr.heap[N + 1 + 1]? = some (.cells #[.slice none 0 0] 61 (0, 0)) := (HOR.out.block (N + 1 + 1) (by omega) (by rintro (h | h); exact h HM2.out; omega)).trans H2.out
      have hc9 := box_cell hr9
      have hf9 := frozen_row (j := 0) hr9
      have hF := fin_post (R := rowM s l) (r0 := N + 1 + 1) HP.out HOW.out hN rfl HPR.out.rn ⟨HPR.out.nrm, HPR.out.inn, fun x => by have := HJ.out x; rw [hall] at this; exact this⟩ HPR.out.memo (by omega) (by omega) HM2.out
      have HF := Lib.hid hF
      clear hF
      go_wp2
      exact bodyPost_ret (v := .agg #[.slice a5 J.length c5]) (by simp [results, Tryd.results43, go_sem, *]) rfl HF.out
end Go.Proofs.YtooaamepflkgnaaDoor
set_option maxRecDepth 100000
namespace Go.Proofs.YtooaamepflkgnaaDoor
open Go.RowKit

theorem four_rows (w : World) (x y z t : Array Value) (e1 e2 e3 e4 : TypeId) (n : Nat) (hn : w.heap.size = n) :
    Below n w ((((w.alloc (.cells x e1)).alloc (.cells y e2)).alloc (.cells z e3)).alloc (.cells t e4)) ∧
    ((((w.alloc (.cells x e1)).alloc (.cells y e2)).alloc (.cells z e3)).alloc (.cells t e4)).heap.size = n + 4 ∧
    ((((w.alloc (.cells x e1)).alloc (.cells y e2)).alloc (.cells z e3)).alloc (.cells t e4)).heap[n]? = some (.cells x e1 (0, 0)) ∧
    ((((w.alloc (.cells x e1)).alloc (.cells y e2)).alloc (.cells z e3)).alloc (.cells t e4)).heap[n + 1]? = some (.cells y e2 (0, 0)) ∧
    ((((w.alloc (.cells x e1)).alloc (.cells y e2)).alloc (.cells z e3)).alloc (.cells t e4)).heap[n + 2]? = some (.cells z e3 (0, 0)) ∧
    ((((w.alloc (.cells x e1)).alloc (.cells y e2)).alloc (.cells z e3)).alloc (.cells t e4)).heap[n + 3]? = some (.cells t e4 (0, 0)) := by
  obtain ⟨h1, h2, h3, h4, h5⟩ := three_boxes w x y z e1 e2 e3 n hn
  have n4 := heap_alloc_new (((w.alloc (.cells x e1)).alloc (.cells y e2)).alloc (.cells z e3)) (.cells t e4)
  rw [h2] at n4
  refine ⟨h1.alloc (by rw [h2]; omega) _, by simp; omega, ?_, ?_, ?_, n4⟩
  · rw [heap_alloc_old _ _ (by rw [h2]; omega)]; exact h3
  · rw [heap_alloc_old _ _ (by rw [h2]; omega)]; exact h4
  · rw [heap_alloc_old _ _ (by rw [h2]; omega)]; exact h5
theorem part_cells {w : World} {b : Nat} {p : Pat} {ks : Value} {kn : Option Nat} (h : w.heap[b]? = some (.cells (partC p ks kn) 69 (0, 0))) :
    w.cell? ⟨b, 0, none⟩ = some (.int .i64 p.op) ∧ w.cell? ⟨b, 5, none⟩ = some (.int .i64 (leastN p)) ∧ w.cell? ⟨b, 6, none⟩ = some (.int .i64 p.hi) ∧ w.cell? ⟨b, 7, none⟩ = some ks ∧ w.cell? ⟨b, 8, none⟩ = some (.map kn) :=
  ⟨(cell_of_row _ _ 0 _ _ _ h).trans rfl, (cell_of_row _ _ 5 _ _ _ h).trans rfl, (cell_of_row _ _ 6 _ _ _ h).trans rfl, (cell_of_row _ _ 7 _ _ _ h).trans rfl, (cell_of_row _ _ 8 _ _ _ h).trans rfl⟩
theorem part_set {w : World} {b : Nat} {p : Pat} {ks : Value} {kn : Option Nat} (h : w.heap[b]? = some (.cells (partC p ks kn) 69 (0, 0))) :
    w.cell? ⟨b, 1, none⟩ = some (.int .u64 (wd p.set 0)) ∧ w.cell? ⟨b, 2, none⟩ = some (.int .u64 (wd p.set 1)) ∧ w.cell? ⟨b, 3, none⟩ = some (.int .u64 (wd p.set 2)) ∧ w.cell? ⟨b, 4, none⟩ = some (.int .u64 (wd p.set 3)) :=
  ⟨(cell_of_row _ _ 1 _ _ _ h).trans rfl, (cell_of_row _ _ 2 _ _ _ h).trans rfl, (cell_of_row _ _ 3 _ _ _ h).trans rfl, (cell_of_row _ _ 4 _ _ _ h).trans rfl⟩
theorem Rn.far {w wr : World} {mb : Nat → Option Pat} {X : Nat → Prop} {v : Value} {K : List (Int × Int)} (h : Rn w X v K) (ho : Out (Xm mb) w wr) (hx : ∀ k, Xm mb k → X k) : Rn wr (fun k => X k ∨ w.heap.size ≤ k) v K := by
  rcases h with h | ⟨b, o, c, e, hc, hn, hr⟩
  · exact .inl h
  · refine .inr ⟨b, o, c, e, hc, fun h0 hb => ?_, fun i hi => ⟨ho.cell (hr i hi).1 fun h => hn (ne_of_lt hi) (hx _ h), ho.cell (hr i hi).2 fun h => hn (ne_of_lt hi) (hx _ h)⟩⟩
    have hlt := cell_lt (hr 0 (List.length_pos_iff.2 h0)).1
    rcases hb with hb | hb
    · exact hn h0 hb
    · have hlt : b < w.heap.size := hlt
      omega
theorem Var.pre {s : ByteArray} {mb : Nat → Option Pat} {X : Nat → Prop} {N B bp : Nat} {J K : List (Int × Int)} {v : Value} {w wr : World} (h : Var s mb (Loc X N B) bp J wr) (hp : Pre s mb X v K w) (ho : Out (Xm mb) w wr) (hN : w.heap.size = N) (hb : N ≤ bp) : Pre s mb (Bad bp (Loc X N B) wr) v K wr := by
  refine ⟨hp.sz, fun k hk => .inr (.inr (.inl (hp.xm k hk))), h.fit.2, (hp.rn.far ho hp.xm).weak fun k _ hk => ?_, hp.nrm, hp.inn, h.memo⟩
  obtain ⟨u, hs⟩ := h.set
  rcases hk with e | e | e | e
  · exact .inr (by omega)
  · rw [hs.ownAt] at e; have := (hs.own e).1; exact .inr (by omega)
  · exact .inl e
  · exact .inr (by omega)
theorem Var.rn {s : ByteArray} {mb : Nat → Option Pat} {X : Nat → Prop} {bp : Nat} {J : List (Int × Int)} {w : World} {v : Value} (h : Var s mb X bp J w) (hs : SetB w bp (bp + 1) v J) : Rn w X v J :=
  hs.rn.weak fun k _ hk => by have := h.lt k hk; show k < bp + 1; omega
theorem Var.memoX {s : ByteArray} {mb : Nat → Option Pat} {X : Nat → Prop} {bp : Nat} {J : List (Int × Int)} {w : World} (h : Var s mb X bp J w) : Memos s mb X w := h.memo.weak fun _ _ hk => .inr (.inr hk)
theorem Var.join_call {s : ByteArray} {mb : Nat → Option Pat} {X : Nat → Prop} {bp : Nat} {J L : List (Int × Int)} {u : Value} {wr w3 : World} (h : Var s mb X bp J wr) (ho : Out (Xm mb) wr w3) (hm : Memos s mb (Bad bp X wr) w3) (hr : Rn w3 (Bad bp X wr) u L) (hN : Nrm L) (hI : In s.size L) (hsz : s.size ≤ 90) :
    Calls Tryd.prog 58 #[.pointer (some ⟨bp, 0, none⟩), .agg #[u]] w3 fun e w' => e = .returned (.tuple #[]) ∧ Var s mb X bp (joinR J L) w' ∧ Out (fun k => Xm mb k ∨ k = bp ∨ bp < k) wr w' := by
  obtain ⟨hv, hB⟩ := h.call ho hm
  obtain ⟨v, hs⟩ := hv.set
  refine (join_any bp (bp + 1) v u J L s.size w3 hs hv.nrm hv.inn hN hI (by omega) (by omega) (hr.weak fun k _ hk => ?_)).mono ?_
  · rw [← hB]
    rcases hk with e | e
    · exact .inl e
    · exact .inr (.inl (by rw [hs.ownAt]; exact e))
  · rintro e w' ⟨rfl, ha⟩
    obtain ⟨h1, h2⟩ := hv.added hs ha (hv.nrm.join L) (hv.inn.join hv.nrm hI)
    exact ⟨rfl, h1, (ho.mono fun _ _ h => .inl h).comp h2 fun k _ h => .inr h⟩
set_option maxHeartbeats 2000000 in
theorem either_any (s : ByteArray) (mb : Nat → Option Pat) (p : Pat) (rep : Bool) (b : Nat) (hE : ∀ q ∈ p.kids, ∀ rep b, EndsC s mb q rep b)
    (X : Nat → Prop) (w : World) (v rv : Value) (K : List (Int × Int)) (hp : Pre s mb X v K w) (ht : TreeP w mb p rep b) (hl5 : p.kids.length < 10000) :
    Calls Tryd.prog 44 #[mV rv s, pV b, .agg #[v]] w (Post s mb X (altM s p.kids) K w) := by
  obtain ⟨a, c, rfl⟩ := hp.rn.len
  have ht0 := ht
  rw [TreeP_eq] at ht
  obtain ⟨ks, kn, bs, hpb, hmb, _, hks, htl⟩ := ht
  obtain ⟨ka, kc, rfl⟩ := hks.form
  obtain ⟨hlen, htree⟩ := TreeL_at htl
  obtain ⟨N, hN⟩ : ∃ N, w.heap.size = N := ⟨_, rfl⟩
  obtain ⟨hb1, hsz1, h0, h1, h2, h3⟩ := four_rows w #[rv, .string s] #[.slice a K.length c] #[.slice none 0 0] #[.slice none 0 0] 53 61 61 61 N hN
  obtain ⟨hb3, hsz3, _⟩ := three_boxes w #[rv, .string s] #[.slice a K.length c] #[.slice none 0 0] 53 61 61 N hN
  have hp3 := hp.loc (by rw [hN]; exact hb3) (N := N) (B := N + 1 + 1 + 1) hN (by omega)
  have hv1 := Var.new (bp := N + 1 + 1 + 1) (t := .slice none 0 0) hp3.memo hp3.xm (fun k hk => by have := hp3.lt k hk; omega) (by omega) rfl
  clear hp3 hb3 hsz3
  obtain ⟨w1, hw1⟩ : ∃ w1, w1 = (((w.alloc (.cells #[rv, .string s] 53)).alloc (.cells #[.slice a K.length c] 61)).alloc (.cells #[.slice none 0 0] 61)).alloc (.cells #[.slice none 0 0] 61) := ⟨_, rfl⟩
  rw [← hw1] at hb1 hsz1 h0 h1 h2 h3 hv1
  have hb1' : Below w.heap.size w w1 := by rw [hN]; exact hb1
  obtain ⟨q0, q5, q6, q7, q8⟩ := part_cells ((hb1'.block b (lt_of_block hpb)).trans hpb)
  have hm2 : mb (N + 1 + 1) = none := hp.new_none (by omega)
  have hbl : bs.length < 10000 := by omega
  have HL := Lib.hid hlen
  have HP := Lib.hid hp
  have HE := Lib.hid hE
  have HT := Lib.hid htree
  have HKS := Lib.hid hks
  have HB1 := Lib.hid hb1'
  have HV1 := Lib.hid hv1
  have HM2 := Lib.hid hm2
  have H0 := Lib.hid h0
  have H1 := Lib.hid h1
  have H2 := Lib.hid h2
  rw [hw1] at q7
  clear hlen hp hE ht0 htl htree hks hb1' hb1 hv1 hm2 h0 h1 h2 h3 hpb hmb q0 q5 q6 q8 hl5
  go_enter Tryd.func44, Tryd.ntmps44
  go_wp2
  rw [← hw1]
  clear hw1
  go_loopw [15] (fun x wr => ∃ (k : Nat) (J : List (Int × Int)), x = .int .i64 k ∧ k ≤ bs.length ∧ Var s mb (Loc X N (N + 1 + 1 + 1)) (N + 1 + 1 + 1) J wr ∧ (∀ x, mem J x ↔ ∃ i, mem K i ∧ altM s (p.kids.take k) i x) ∧ Out (fun k => Xm mb k ∨ k = N + 1 + 1 + 1) w1 wr) (fun x _ => bs.length - (intOf x).toNat)
  case atStart => exact ⟨0, [], rfl, Nat.zero_le _, HV1.out, fun x => by simp [mem, altM], Out.refl _ _⟩
  case round =>
    obtain ⟨k, J, rfl, hk, hvr, hJ, hor⟩ := hrel
    have how : Out (Xm mb) w wr := frame_out HB1.out hor (fun k e => by have e : k = N + 1 + 1 + 1 := e; omega)
    obtain ⟨c0, c1⟩ := pair_cells ((hor.block N (by omega) (by rintro (h | h); exact h (HP.out.new_none (by omega)); omega)).trans H0.out)
    have hc1 := box_cell ((hor.block (N + 1) (by omega) (by rintro (h | h); exact h (HP.out.new_none (by omega)); omega)).trans H1.out)
    have HVR := Lib.hid hvr
    have HOR := Lib.hid hor
    have HOW := Lib.hid how
    have HJ := Lib.hid hJ
    clear hvr hor how hJ HV1 q7
    by_cases hkl : k < bs.length
    · obtain ⟨kb, ko, cap, e, hx⟩ := (HKS.out.out HOW.out).at hkl
      cases e
      have hkl' : k < p.kids.length := by rw [← HL.out]; exact hkl
      have HC := Lib.hid (HE.out p.kids[k] (List.getElem_mem hkl') _ _ _ wr _ rv K (HVR.out.pre HP.out HOW.out hN (by omega)) (TreeP.out HOW.out _ (HT.out k hkl' hkl)))
      have HTK := Lib.hid (take_step p.kids k hkl')
      generalize hbk : bs[k] = bk at hx HC
      have hsz5 := HP.out.sz
      go_wp2_with (first | (go_at_call 36; refine HC.out.mono ?_; rintro e w3 ⟨a6, n6, c6, L6, rfl, hr6, he6, ho6, hm6⟩) | (go_at_call 58; refine (HVR.out.join_call ho6 hm6 hr6 he6.1 he6.2.1 hsz5).mono ?_; rintro e w4 ⟨rfl, hv4, ho4⟩))
      go_roundw
      case rel =>
        refine ⟨k + 1, _, num_succ k, by omega, hv4, fun x => ?_, HOR.out.comp ho4 fun i hi h => ?_⟩
        · rw [mem_join HVR.out.nrm, HJ.out, he6.2.2, HTK.out]
          simp only [altM_iff, List.mem_append, List.mem_singleton]
          constructor
          · rintro (⟨i, h1, q, h2, h3⟩ | ⟨i, h1, h2⟩)
            · exact ⟨i, h1, q, .inl h2, h3⟩
            · exact ⟨i, h1, _, .inr rfl, h2⟩
          · rintro ⟨i, h1, q, h2 | rfl, h3⟩
            · exact .inl ⟨i, h1, q, h2, h3⟩
            · exact .inr ⟨i, h1, h3⟩
        · rcases h with h | h | h
          · exact .inl h
          · exact .inr h
          · exact .inr (by omega)
      case measure => simp [intOf]; omega
    · obtain rfl : k = bs.length := by omega
      have hall : p.kids.take bs.length = p.kids := by rw [HL.out, List.take_length]
      have hr9 : wr.heap[N + 1 + 1]? = some (.cells #[.slice none 0 0] 61 (0, 0)) := (HOR.out.block (N + 1 + 1) (by omega) (by rintro (h | h); exact h HM2.out; omega)).trans H2.out
      have hc9 := box_cell hr9
      have hf9 := frozen_row (j := 0) hr9
      obtain ⟨v9, hs9⟩ := HVR.out.set
      obtain ⟨a9, c9, rfl, _⟩ := hs9.2.1.form
      have hcc := hs9.cell
      have hF := fin_post (R := altM s p.kids) (r0 := N + 1 + 1) HP.out HOW.out hN rfl (HVR.out.rn hs9) ⟨HVR.out.nrm, HVR.out.inn, fun x => by have := HJ.out x; rw [hall] at this; exact this⟩ HVR.out.memoX (by omega) (by omega) HM2.out
      have HF := Lib.hid hF
      clear hF
      go_wp2
      exact bodyPost_ret (v := .agg #[.slice a9 J.length c9]) (by simp [results, Tryd.results44, go_sem, *]) rfl HF.out
end Go.Proofs.YtooaamepflkgnaaDoor
set_option maxRecDepth 100000
namespace Go.Proofs.YtooaamepflkgnaaDoor
open Go.RowKit Go.Shelf
attribute [local go_sem] Oper.semAt_some

/-- One of a set's numbers. -/
abbrev Of (K : List (Int × Int)) : Type := { x : Int // mem K x }
theorem all_any (v : Value) (K : List (Int × Int)) (X : Nat → Prop) (w : World) (hv : Rn w X v K) :
    Calls Tryd.prog 31 #[.agg #[v]] w fun e w' => e = .returned (.func (.func 38) #[] #[.pointer (some ⟨w.heap.size, 0, none⟩)]) ∧ w' = w.alloc (.cells #[v] 61) := by
  obtain ⟨a, c, rfl⟩ := hv.len
  go_enter Tryd.func31, Tryd.ntmps31
  go_wp2
  go_ret
  exact ⟨rfl, rfl⟩
theorem all_stops (n : Nat) (hn : 1 ≤ n) (bs bp N : Nat) (Y : Nat → Prop) (v : Value) (K : List (Int × Int)) (w0 : World) (hs : w0.heap[bs]? = some (.cells #[v] 61 (0, 0))) (hf : Fit bp Y w0) (hv : Rn w0 (Bad bp Y w0) v K) (hB : Bd K) (hNm : Nrm K) (hN : (ints K).length ≤ N) (hN5 : K.length < 10000) :
    SeqStopsK Fence.wide n Tryd.prog 38 #[.pointer (some ⟨bs, 0, none⟩)] (fun x : Of K => #[Value.int .i64 x.1]) (KeepV bp Y) (fun ys => ys.map (·.1) = ints K) (fun _ => True) N w0 := by
  intro l J Jx W hW hA _ hY h0
  have hk := KeepV.below (bp := bp) (Y := Y) hW hf.1
  refine (all1_in n hn l bs bp N Y v K (fun pre W => ∃ p : List (Of K), p.map (·.1) = pre ∧ J p W) (fun _ W => ∃ p : List (Of K), Jx p W) ?_ W ?_ ((hW.block bs (lt_of_block hs)).trans hs) (hk.fits hf) (hk.rn hv) hB hNm hN hN5 ⟨[], rfl, h0⟩).mono ?_
  · rintro pre x W1 hx ⟨p, rfl, hJ⟩ hl
    obtain ⟨fn, tmps, assign, body, h1, h2⟩ := hY p ⟨x, hx⟩ W1 hJ (by simpa using hl)
    refine ⟨fn, tmps, assign, body, h1, h2.mono ?_⟩
    rintro e W' (⟨e1, e2, e3⟩ | ⟨e1, e2⟩)
    · exact .inl ⟨e1, ⟨p ++ [⟨x, hx⟩], by simp, e2⟩, e3⟩
    · exact .inr ⟨e1, _, e2⟩
  · rintro pre A B row ⟨p, e, hJ⟩ hg hr
    exact ⟨p, e, hA p A B row hJ hg hr⟩
  · rintro e W' ⟨hv, ⟨ys, rfl, p, hp, hJ⟩ | ⟨pre, _, p, hJ⟩⟩
    · exact ⟨hv, .inl ⟨p, hp, hJ⟩⟩
    · exact ⟨hv, .inr ⟨p, trivial, hJ⟩⟩
theorem SetB.row {w w' : World} {bp base : Nat} {v : Value} {L : List (Int × Int)} {row : Option Nat} (h : SetB w bp base v L) (hg : w.grownBy w' row) (hr : ∀ r, row = some r → ∃ o : Obj, w.heap[r]? = some o ∧ o.isCells = false) : SetB w' bp base v L := by
  have ho : Out (fun k => row = some k) w w' := ⟨hg.os, hg.tape, hg.output, hg.size, fun k hk hn => hg.block k hk (fun e => hn e.symm)⟩
  refine h.out ho fun k hk e => ?_
  obtain ⟨o, h1, h2⟩ := hr k e
  rcases hk with rfl | e2
  · rw [h.1] at h1; cases h1; cases h2
  · rcases h.2.1.2 with ⟨rfl, _⟩ | ⟨g, cap, cur, rfl, _, hgb, _⟩
    · simp [Value.ownBlock] at e2
    · obtain rfl : g = k := by simpa [Value.ownBlock] using e2
      rw [hgb] at h1; cases h1; cases h2
theorem Added.others {bp base : Nat} {v : Value} {L L0 : List (Int × Int)} {w w' : World} (h : Added bp base v L w w') (hs : SetB w bp base v L0) : KeepsOthers w w' := by
  obtain ⟨_, _, ho, _⟩ := h
  refine ⟨ho.size, fun k o hk hc => (ho.block k (lt_of_block hk) ?_).trans hk⟩
  rintro (rfl | e)
  · rw [hs.1] at hk; cases hk; cases hc
  · rcases hs.2.1.2 with ⟨rfl, _⟩ | ⟨g, cap, cur, rfl, _, hgb, _⟩
    · simp [Value.ownBlock] at e
    · obtain rfl : g = k := by simpa [Value.ownBlock] using e
      rw [hgb] at hk; cases hk; cases hc
theorem KeepsOthers.of_below {w w' : World} (h : Below w.heap.size w w') : KeepsOthers w w' := ⟨h.size, fun k _ hk _ => (h.block k (lt_of_block hk)).trans hk⟩
/-- What a loop over a set's numbers has collected. -/
def Coll (bp : Nat) (n : Int) (f : Int → Int → Prop) (w0 : World) (pre : List Int) (W : World) : Prop := ∃ J v, SetB W bp (bp + 1) v J ∧ Nrm J ∧ In n J ∧ (∀ x, mem J x ↔ ∃ y ∈ pre, f y x) ∧ Below bp w0 W
theorem Coll.own {K : List (Int × Int)} {bp : Nat} {n : Int} {f : Int → Int → Prop} {w0 : World} {B : Nat} (hB : bp < B) : OwnFrom B (fun (pre : List (Of K)) W => Coll bp n f w0 (pre.map (·.1)) W) := by
  rintro pre W W' row ⟨J, v, hs, h1, h2, h3, h4⟩ hg hr
  exact ⟨J, v, hs.row hg (fun r e => (hr r e).2), h1, h2, h3, h4.grown hg (Nat.le_of_lt hs.lt) (fun k e => by have := (hr k e).1; omega)⟩
/-- Behind the turn of a block of the book-keeping. -/
theorem Rn.put {w : World} {X : Nat → Prop} {v : Value} {L : List (Int × Int)} {D : Nat} {o : Obj} (h : Rn w X v L) (hD : w.heap[D]? = some o) (ho : o.isCells = false) (o' : Obj) : Rn (w.putObj D o') X v L := by
  rcases h with h | ⟨b, of, c, e, hc, hn, hr⟩
  · exact .inl h
  · refine .inr ⟨b, of, c, e, hc, hn, fun i hi => ?_⟩
    obtain ⟨ob, h1, h2⟩ := cell_obj (hr i hi).1
    have hne : b ≠ D := by rintro rfl; rw [hD] at h1; cases h1; rw [ho] at h2; cases h2
    have h3 : (w.putObj D o').heap[b]? = w.heap[b]? := World.putObj_heap_other hne
    exact ⟨(World.cell?_of_block (a := ⟨b, of + i * 2, none⟩) h3).trans (hr i hi).1, (World.cell?_of_block (a := ⟨b, of + i * 2 + 1, none⟩) h3).trans (hr i hi).2⟩
theorem Post.put {s : ByteArray} {mb : Nat → Option Pat} {X : Nat → Prop} {R : Int → Int → Prop} {K : List (Int × Int)} {w w' : World} {e : Ending} {D : Nat} {ds : Option (List Deferred)} (h : Post s mb X R K w e w') (hD : w'.heap[D]? = some (.deferred ds)) (hn : w.heap.size ≤ D) (o' : Obj) : Post s mb X R K w e (w'.putObj D o') := by
  obtain ⟨a, n, c, L, rfl, hr, he, ho, hm⟩ := h
  refine ⟨a, n, c, L, rfl, hr.put hD rfl o', he, ho.comp (Y := fun k => k = D) ⟨rfl, rfl, rfl, by simp, fun k _ hk => World.putObj_heap_other hk⟩ (fun i hi e => by have e : i = D := e; omega), ?_⟩
  refine hm.map (fun k hk => World.putObj_heap_other ?_) fun v L hr => hr.put hD rfl o'
  rintro rfl
  obtain ⟨es, c, h1⟩ := hm.block hk
  rw [hD] at h1; cases h1
end Go.Proofs.YtooaamepflkgnaaDoor
set_option maxRecDepth 100000
namespace Go.Proofs.YtooaamepflkgnaaDoor
open Go

theorem rows_wide {n : Nat} {P : Program} {row : String} {args : Array Value} {w : World} {R : Value → World → Prop} (h : Rows P row args w R) : RowsIn Fence.wide n P row args w R := by
  intro c cs _
  obtain ⟨v, w', r, s⟩ := h c cs
  exact ⟨v, w', r, stepsIn_wide.2 s⟩
theorem wp_round {l n : Nat} {P : Program} {o : Oper} {a : Act} {w : World} {K : Act → World → Prop} {Q : Exit → Act → World → Prop} (hd : ∀ c, o.op ≠ .defer c) (h : o.wp P a w K Q) : o.wpIn (Fence.wide.inRound l) n P a w K Q := by
  refine ⟨fun _ _ => trivial, ?_⟩
  rw [Oper.semAt_eq _ _ _ hd]
  unfold Oper.wp at h
  generalize (execOp a.eval o).run P w = r at *
  cases r with
  | ok x w' =>
    cases x <;> simp only [Oper.upon] at h <;> simp only [Oper.uponIn]
    case value u => exact h
    case skip => exact h
    case defer d => exact h
    case enter f args => exact ⟨fun hh => by simp [Fence.wide] at hh, CallsIn.inRound l (callsIn_wide.2 h)⟩
    case row row args => exact ⟨fun hh => by simp [Fence.wide] at hh, rows_wide h⟩
  | halt x w' => cases x <;> simp only [Oper.upon] at h <;> simp only [Oper.uponIn] <;> exact h
theorem wpOp_round {l n : Nat} {P : Program} {ops : Array Oper} {i : Nat} {a : Act} {w : World} {K : Act → World → Prop} {Q : Exit → Act → World → Prop} (hd : ∀ o ∈ ops.toList, ∀ c, o.op ≠ .defer c) (hQ : ¬ LetsOut Q) (h : wpOp P ops Q i K a w) : wpOpIn (Fence.wide.inRound l) n P ops Q i K a w := by
  unfold wpOp at h
  unfold wpOpIn
  cases ho : ops[i]? with
  | none => simp only [ho] at h; exact h
  | some o =>
    simp only [ho] at h
    have hm : o ∈ ops.toList := by simpa using Array.mem_of_getElem? ho
    by_cases hw : Region.wanted o (yielded ops a.tmps) = true
    · simp only [hw, if_true] at h ⊢
      rcases h with h | h
      · exact wp_round (hd o hm) h
      · exact absurd h.2 hQ
    · simp only [hw] at h ⊢
      exact ⟨fun _ _ => trivial, h⟩
theorem wpAny_round {l n : Nat} {P : Program} {md : Region.Mode} {ops : Array Oper} {Q : Exit → Act → World → Prop} (hd : ∀ o ∈ ops.toList, ∀ c, o.op ≠ .defer c) (hQ : ¬ LetsOut Q) :
    ∀ (fuel : Nat) (listed : Array Bool) (a : Act) (w : World), wpAny P md ops Q fuel listed a w → wpAnyIn (Fence.wide.inRound l) n P md ops Q fuel listed a w
  | 0, _, _, _, h => h
  | fuel + 1, _, _, _, h => ⟨h.1, fun i hi => wpOpIn_mono (fun a' w' h' => wpAny_round hd hQ fuel _ a' w' h') (wpOp_round hd hQ (h.2 i hi))⟩
/-- A region that draws, in a round, under a condition on the world. -/
theorem region_round {l n : Nat} {P : Program} {id : Nat} {ops : List Oper} {Q : Exit → Act → World → Prop} {a : Act} {w : World} (N : Nat) (hN : ops.length = N) (S : World → Prop) (hm : P.follows .mixedOrders = true) (hd : ∀ o ∈ ops, ∀ c, o.op ≠ .defer c) (hQ : ¬ LetsOut Q) (hS : S w.drew)
    (h : S w.drew → wpAnyH P .any ops.toArray Q S N (Array.replicate N false) a w.drew) : (Code.region id ops.toArray true).wpIn (Fence.wide.inRound l) n P Q a w := by
  subst hN
  refine wpIn_region_any hm (wpAny_round (by simpa using hd) hQ _ _ _ _ (wpAny_of_held (S := S) _ _ _ _ ?_))
  simpa using h hS
end Go.Proofs.YtooaamepflkgnaaDoor
