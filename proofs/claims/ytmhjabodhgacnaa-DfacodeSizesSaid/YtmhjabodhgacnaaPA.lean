/- Bytes as they lie; rows of bytes of one's own. -/
import Derived.Test.YtmhjabodhgacnaaPN
import Derived.Test.YtmhjabodhgacnaaXI
import Derived.Laws.BytesString
import Derived.Laws.Cells
set_option maxRecDepth 100000
namespace Go.Proofs.Ytmhjabodhgacnaa
open Go.RowKit

/-- Bytes as values. -/
def u8s (l : List Nat) : List Value := l.map fun x : Nat => Value.int .u8 (x : Int)
theorem u8s_at {l : List Nat} {i : Nat} (h : i < l.length) : (u8s l)[i]? = some (.int .u8 (l[i] : Nat)) := by simp [u8s, h]
theorem u8s_append (l r : List Nat) : u8s (l ++ r) = u8s l ++ u8s r := by simp [u8s]
theorem u8s_snoc (l : List Nat) (x : Nat) : u8s (l ++ [x]) = u8s l ++ [.int .u8 (x : Nat)] := by simp [u8s]
theorem u8s_len (l : List Nat) : (u8s l).length = l.length := by simp [u8s]
theorem u8s_one (l : List Nat) : ∀ u ∈ u8s l, u.oneCell' = true := by
  intro u hu
  obtain ⟨x, _, rfl⟩ := List.mem_map.1 hu
  rfl
/-- A text of bytes. -/
def strOf (L : List Nat) : ByteArray := ⟨(L.map UInt8.ofNat).toArray⟩
theorem strOf_size (l : List Nat) : (strOf l).size = l.length := by
  show (strOf l).data.size = _
  simp [strOf]
theorem strOf_append (l r : List Nat) : strOf (l ++ r) = strOf l ++ strOf r := by
  unfold strOf
  apply ByteArray.ext
  simp
theorem strOf_bytes {l : List Nat} (h : ∀ x ∈ l, x < 256) : bytesOf (strOf l) = l := by
  unfold bytesOf strOf
  simp only [List.map_map]
  rw [List.map_congr_left (g := id) fun x hx => ?_, List.map_id]
  simp only [Function.comp, id]
  rw [UInt8.toNat_ofNat']
  exact Nat.mod_eq_of_lt (h x hx)
theorem bytesOf_lt (s : ByteArray) : ∀ b ∈ bytesOf s, b < 256 := by
  intro b hb
  obtain ⟨x, _, rfl⟩ := List.mem_map.1 hb
  exact x.toNat_lt
theorem strOf_of (s : ByteArray) : strOf (bytesOf s) = s := by
  unfold strOf bytesOf
  apply ByteArray.ext
  simp only [List.map_map]
  rw [List.map_congr_left (g := id) fun x _ => ?_, List.map_id]
  simp
theorem strOf_inj {l r : List Nat} (hl : ∀ x ∈ l, x < 256) (hr : ∀ x ∈ r, x < 256) (h : strOf l = strOf r) : l = r := by
  have := congrArg bytesOf h
  rwa [strOf_bytes hl, strOf_bytes hr] at this
theorem foldl_push_bytes (xs : List Nat) : ∀ r : ByteArray, ((xs.map fun x : Nat => (x : Int)).foldl (fun (r : ByteArray) (n : Int) => r.push (UInt8.ofNat n.toNat)) r) = ⟨r.data ++ (xs.map fun x => UInt8.ofNat x).toArray⟩ := by
  induction xs with
  | nil => intro r; simp
  | cons x xs ih =>
    intro r
    simp only [List.map_cons, List.foldl_cons, Int.toNat_natCast]
    rw [ih]
    congr 1
    simp [ByteArray.push]
theorem add_none (b off n : Nat) : (⟨b, off, none⟩ : Addr).add n = ⟨b, off + n, none⟩ := by
  unfold Addr.add
  split
  · rename_i h; subst h; rfl
  · rfl
/-- As bytes lie, at any place. -/
def BytesAt (w : World) (v : Value) (l : List Nat) : Prop := ∃ a c, v = .slice a l.length c ∧ l.length ≤ c ∧ ∀ i (h : i < l.length), ∃ b o, a = some ⟨b, o, none⟩ ∧ w.cell? ⟨b, o + i, none⟩ = some (.int .u8 (l[i] : Nat))
theorem BytesAt.len {w : World} {v : Value} {l : List Nat} (h : BytesAt w v l) : ∃ a c, v = .slice a l.length c ∧ l.length ≤ c := by
  obtain ⟨a, c, h1, h2, _⟩ := h
  exact ⟨a, c, h1, h2⟩
theorem BytesAt.below {w w' : World} {v : Value} {l : List Nat} (h : BytesAt w v l) (hb : Below w.heap.size w w') : BytesAt w' v l := by
  obtain ⟨a, c, e, hc, h1⟩ := h
  exact ⟨a, c, e, hc, fun i hi => by
    obtain ⟨b, o, e1, e2⟩ := h1 i hi
    exact ⟨b, o, e1, cell_below hb e2⟩⟩
theorem BytesAt.nil (w : World) : BytesAt w (.slice none 0 0) [] := ⟨none, 0, rfl, Nat.le_refl _, fun i hi => by simp at hi⟩
theorem BytesAt.at {w : World} {a : Option Addr} {n c : Nat} {l : List Nat} (h : BytesAt w (.slice a n c) l) {i : Nat} (hi : i < l.length) : ∃ b o, a = some ⟨b, o, none⟩ ∧ w.cell? ⟨b, o + i, none⟩ = some (.int .u8 (l[i] : Nat)) := by
  obtain ⟨a', c', e, _, h1⟩ := h
  cases e
  exact h1 i hi
theorem bytes_row {w : World} {B : Nat} {v : Value} {l : List Nat} (h : w.ownsRow B 5 1 v l.length (u8s l)) : BytesAt w v l := by
  have h0 := h
  rcases h.2 with ⟨rfl, h1⟩ | ⟨g, cap, cur, rfl, _, _, hc, _⟩
  · have : l = [] := List.eq_nil_of_length_eq_zero h1
    subst this; exact BytesAt.nil w
  · exact ⟨_, cap, rfl, hc, fun i hi => ⟨g, 0, rfl, by rw [Nat.zero_add, h0.cellAt i (by omega)]; exact u8s_at hi⟩⟩
/-- The part from a place on. -/
theorem BytesAt.drop {w : World} {a : Option Addr} {n c k : Nat} {l : List Nat} (h : BytesAt w (.slice a n c) l) (hk : k ≤ l.length) : BytesAt w (sliced a k n c 1) (l.drop k) := by
  obtain ⟨a', c', e, hc, h1⟩ := h
  cases e
  unfold sliced
  by_cases hck : c = k
  · rw [if_pos hck]
    have hn : l.drop k = [] := by rw [List.drop_eq_nil_iff]; omega
    rw [hn]
    exact ⟨a, c - k, by rw [show l.length - k = 0 from by omega]; rfl, Nat.zero_le _, fun i hi => by simp at hi⟩
  · rw [if_neg hck]
    refine ⟨_, _, by rw [List.length_drop], by rw [List.length_drop]; omega, fun i hi => ?_⟩
    rw [List.length_drop] at hi
    obtain ⟨b, o, rfl, h2⟩ := h1 (k + i) (by omega)
    refine ⟨b, o + k, ?_, ?_⟩
    · rw [Option.map_some, Nat.mul_one, add_none]
    · rw [List.getElem_drop, ← h2, Nat.add_assoc]
/-- The part up to a place. -/
theorem BytesAt.take {w : World} {a : Option Addr} {n c k : Nat} {l : List Nat} (h : BytesAt w (.slice a n c) l) (hk : k ≤ l.length) : BytesAt w (sliced a 0 k c 1) (l.take k) := by
  obtain ⟨a', c', e, hc, h1⟩ := h
  cases e
  unfold sliced
  have hl : (l.take k).length = k := by rw [List.length_take]; omega
  refine ⟨_, _, by rw [hl, Nat.sub_zero], by rw [hl]; omega, fun i hi => ?_⟩
  rw [hl] at hi
  obtain ⟨b, o, rfl, h2⟩ := h1 i (by omega)
  refine ⟨b, o, ?_, ?_⟩
  · split
    · rfl
    · rw [Option.map_some, Nat.mul_one]
      simp [Addr.add]
  · rw [List.getElem_take]; exact h2
theorem sizeU8 (w : World) : (sizeOf (Try.prog.elem 25)).run Try.prog w = .ok 1 w := by kernel_rfl
theorem elemU8 : Try.prog.underlying 25 = some (.slice (Try.prog.elem 25)) := by kernel_rfl
theorem slice_from {w : World} {a : Option Addr} {n c k : Nat} (hk : k ≤ n) : (Instr.slice 25 (.slice a n c) (some (.int .i64 k)) none none).run Try.prog w = .ok (sliced a k n c 1) w := by
  rw [run_slice_l w _ a n c elemU8 .i64 k (by omega) (by omega), sizeU8]
  rfl
theorem slice_upto {w : World} {a : Option Addr} {n c k : Nat} (hk : k ≤ c) : (Instr.slice 25 (.slice a n c) none (some (.int .i64 k)) none).run Try.prog w = .ok (sliced a 0 k c 1) w := by
  rw [run_slice_h w _ a n c elemU8 .i64 k (by omega) (by omega), sizeU8]
  rfl
/-- Bytes as a text. -/
theorem conv_bytes {w : World} {a : Option Addr} {n c : Nat} {l : List Nat} (h : BytesAt w (.slice a n c) l) : (convert 25 9 (.slice a n c)).run Try.prog w = .ok (.string (strOf l)) w := by
  rw [run_convert_bytes_string w _ _ _ _ _ c Try.underlying25 Try.underlying5 Try.underlying9]
  obtain ⟨a', c', e, hc, h1⟩ := h
  cases e
  by_cases h0 : l.length = 0
  · have hL : l = [] := List.eq_nil_of_length_eq_zero h0
    subst hL
    cases a <;> rfl
  obtain ⟨b, o, rfl, _⟩ := h1 0 (by omega)
  have hl := run_loadCells_list (P := Try.prog) (w := w) ⟨b, o, none⟩ (u8s l) (fun j v hv => by
    have hj : j < l.length := by
      have := (List.getElem?_eq_some_iff.1 hv).1
      rwa [u8s_len] at this
    obtain ⟨b2, o2, e2, h2⟩ := h1 j hj
    cases e2
    rw [u8s_at hj] at hv
    rw [show (⟨b, o, none⟩ : Addr).add j = ⟨b, o + j, none⟩ from add_none _ _ _, h2]; exact hv)
  rw [u8s_len] at hl
  have hu : u8s l = (l.map fun x : Nat => (x : Int)).map (Value.int .u8) := by unfold u8s; rw [List.map_map]; rfl
  rw [hu] at hl
  rw [run_bytesToString w ⟨b, o, none⟩ _ c _ hl, foldl_push_bytes]
  simp [strOf, ByteArray.empty, ByteArray.emptyWithCapacity]
  rfl
theorem infoU8 : (Try.prog.info? 5).map (fun i => (i.zero, i.size, i.bytes)) = some (some (.int .u8 0), 1, 1) := by kernel_rfl
/-- A row of one's own, as it grows. -/
structure Gr (w w' : World) (v v' : Value) : Prop where
  g : w.grownBy w' v.ownBlock
  o : v'.ownBlock = v.ownBlock ∨ ∀ k, v'.ownBlock = some k → w.heap.size ≤ k
theorem Gr.refl (w : World) (v : Value) : Gr w w v v := ⟨⟨rfl, rfl, rfl, Nat.le_refl _, fun _ _ _ => rfl⟩, .inl rfl⟩
theorem Gr.trans {w w1 w2 : World} {v v1 v2 : Value} (h : Gr w w1 v v1) (k : Gr w1 w2 v1 v2) : Gr w w2 v v2 := by
  refine ⟨⟨k.g.os.trans h.g.os, k.g.tape.trans h.g.tape, k.g.output.trans h.g.output, Nat.le_trans h.g.size k.g.size, fun i hi hne => ?_⟩, ?_⟩
  · have h1 := h.g.block i hi hne
    have h2 : some i ≠ v1.ownBlock := by
      rcases h.o with e | e
      · rw [e]; exact hne
      · intro e2
        have := e i e2.symm
        omega
    exact (k.g.block i (Nat.lt_of_lt_of_le hi h.g.size) h2).trans h1
  · rcases k.o with e | e
    · rw [e]; exact h.o
    · exact .inr fun i hi => Nat.le_trans h.g.size (e i hi)
theorem Gr.ofBelow {w w' : World} {v : Value} (h : Below w.heap.size w w') : Gr w w' v v := ⟨⟨h.os, h.tape, h.output, h.size, fun k hk _ => h.block k hk⟩, .inl rfl⟩
theorem Gr.below {w w' : World} {v v' : Value} {B : Nat} (h : Gr w w' v v') (hB : B ≤ w.heap.size) (hv : ∀ k, v.ownBlock = some k → B ≤ k) : Below B w w' :=
  (Below.refl B w).grown h.g hB hv
theorem Gr.cell {w w' : World} {v v' : Value} {a : Addr} {u : Value} (h : Gr w w' v v') (hc : w.cell? a = some u) (hne : some a.block ≠ v.ownBlock) : w'.cell? a = some u := h.g.cell hc hne
theorem own_base {w : World} {B n sz : Nat} {e : TypeId} {v : Value} {l : List Value} (h : w.ownsRow B e sz v n l) : ∀ k, v.ownBlock = some k → B ≤ k := by
  intro k hk
  rcases h.2 with ⟨rfl, _⟩ | ⟨g, cap, cur, rfl, hg, _⟩
  · cases hk
  · simp only [Value.ownBlock, Option.some.injEq] at hk
    omega
theorem own_type {w : World} {B n sz : Nat} {e t : TypeId} {v : Value} {l : List Value} {b : Nat} {cs : Array Value} {fz : Nat × Nat} (h : w.ownsRow B e sz v n l) (hb : w.heap[b]? = some (.cells cs t fz)) (ht : t ≠ e) : some b ≠ v.ownBlock := by
  intro hk
  rcases h.2 with ⟨rfl, _⟩ | ⟨g, cap, cur, rfl, _, hg, _⟩
  · cases hk
  · simp only [Value.ownBlock, Option.some.injEq] at hk
    subst hk
    rw [hb] at hg
    simp only [Option.some.injEq, Obj.cells.injEq] at hg
    exact ht hg.2.1
theorem gr_push {w w' : World} {v : Value} {g n c H : Nat} (h : w.grownBy w' v.ownBlock) (ho : v.ownBlock = some g ∨ g = H) (hH : w.heap.size = H) : Gr w w' v (.slice (some ⟨g, 0, none⟩) n c) := by
  refine ⟨h, ?_⟩
  rcases ho with e | e
  · exact .inl (by rw [e]; rfl)
  · exact .inr fun k hk => by simp only [Value.ownBlock, Option.some.injEq] at hk; omega
end Go.Proofs.Ytmhjabodhgacnaa
