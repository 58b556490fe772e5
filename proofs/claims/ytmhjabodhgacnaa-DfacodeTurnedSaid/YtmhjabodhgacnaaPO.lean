/- Bytes that may be appended to: a row of one's own, or a full slice. -/
import Derived.Test.YtmhjabodhgacnaaPB
import Derived.ArgAppend
set_option maxRecDepth 100000
namespace Go.Proofs.Ytmhjabodhgacnaa
open Go.RowKit

/-- Bytes of one's own, or without room behind them. -/
def OwnF (w : World) (B : Nat) (v : Value) (l : List Nat) : Prop := w.ownsRow B 5 1 v l.length (u8s l) ∨ ∃ g cs fz, v = .slice (some ⟨g, 0, none⟩) l.length l.length ∧ B ≤ g ∧ BytesAt w v l ∧ w.heap[g]? = some (.cells cs 5 fz)
theorem OwnF.bytes {w : World} {B : Nat} {v : Value} {l : List Nat} (h : OwnF w B v l) : BytesAt w v l := by
  rcases h with h | ⟨g, cs, fz, _, _, h, _⟩
  · exact bytes_row h
  · exact h
theorem OwnF.form {w : World} {B : Nat} {v : Value} {l : List Nat} (h : OwnF w B v l) : ∃ a cp, v = .slice a l.length cp := by
  obtain ⟨a, c, e, _⟩ := h.bytes
  exact ⟨a, c, e⟩
theorem OwnF.base {w : World} {B : Nat} {v : Value} {l : List Nat} (h : OwnF w B v l) : ∀ k, v.ownBlock = some k → B ≤ k ∧ k < w.heap.size := by
  rcases h with h | ⟨g, cs, fz, rfl, hB, _, hg⟩
  · exact h.lt
  · intro k hk
    simp only [Value.ownBlock, Option.some.injEq] at hk
    subst hk
    exact ⟨hB, lt_of_block hg⟩
theorem OwnF.type {w : World} {B : Nat} {v : Value} {l : List Nat} (h : OwnF w B v l) {b : Nat} {cs : Array Value} {fz : Nat × Nat} {t : TypeId} (hb : w.heap[b]? = some (.cells cs t fz)) (ht : t ≠ 5) : some b ≠ v.ownBlock := by
  rcases h with h | ⟨g, cs', fz', rfl, hB, _, hg⟩
  · exact own_type h hb ht
  · intro hk
    simp only [Value.ownBlock, Option.some.injEq] at hk
    subst hk
    rw [hb] at hg
    simp only [Option.some.injEq, Obj.cells.injEq] at hg
    exact ht hg.2.1
theorem OwnF.nil (w : World) (B : Nat) : OwnF w B (.slice none 0 0) [] := .inl (World.ownsRow_nil _ _ _ _)
theorem OwnF.below {w w' : World} {B : Nat} {v : Value} {l : List Nat} (h : OwnF w B v l) (hb : Below w.heap.size w w') : OwnF w' B v l := by
  rcases h with h | ⟨g, cs, fz, e, hB, h1, hg⟩
  · exact .inl (row_keep h fun g _ _ hg => (hb.block g (lt_of_block hg)).trans hg)
  · exact .inr ⟨g, cs, fz, e, hB, h1.below hb, (hb.block g (lt_of_block hg)).trans hg⟩
theorem OwnF.low {w : World} {B : Nat} {v : Value} {l : List Nat} (h : OwnF w B v l) : ∀ k, v.ownBlock = some k → k < w.heap.size := fun k hk => (h.base k hk).2
theorem bytes_news {w : World} {g : Nat} {l : List Nat} (h : BytesAt w (.slice (some ⟨g, 0, none⟩) l.length l.length) l) : ∀ j u, (u8s l)[j]? = some u → w.cell? ((⟨g, 0, none⟩ : Addr).add j) = some u := by
  intro j u hj
  have hj2 : j < l.length := by
    have := (List.getElem?_eq_some_iff.1 hj).1
    rwa [u8s_len] at this
  obtain ⟨b, o, e, h2⟩ := h.at hj2
  cases e
  rw [u8s_at hj2] at hj
  rw [add_none, h2]; exact hj
/-- An append to such bytes. -/
theorem wpList_append_of {w : World} {ops : Array Oper} {rest : List Oper} {o : Oper} {a : Act} {Q : Exit → Act → World → Prop} (hgd : o.guard = none) (s x : Operand)
    (ho : o.op = .call { callee := .builtin .append, args := #[s, x], argTypes := #[25, 25] })
    (B : Nat) (v : Value) (L R : List Nat) (n : Nat) (hnl : L.length = n) (hs : a.eval s = v) (hown : OwnF w B v L)
    (ad : Addr) (c : Nat) (m : Nat) (hm : R.length = m) (hx : a.eval x = .slice (some ad) m c) (hnews : ∀ j u, (u8s R)[j]? = some u → w.cell? (ad.add j) = some u)
    (hpos : 0 < m) (hlen : n + m ≤ 100000000) (hbase : B ≤ w.heap.size)
    (h : ∀ g cap w', OwnF w' B (.slice (some ⟨g, 0, none⟩) (n + m) cap) (L ++ R) → Hid (w'.ownsRow B 5 1 (.slice (some ⟨g, 0, none⟩) (n + m) cap) (n + m) (u8s (L ++ R))) → Gr w w' v (.slice (some ⟨g, 0, none⟩) (n + m) cap) → wpList Try.prog ops Q rest (a.put o.dst (.slice (some ⟨g, 0, none⟩) (n + m) cap)) w') : wpList Try.prog ops Q (o :: rest) a w := by
  obtain ⟨i0, hi0, hz0, hz1, hz2⟩ := info_parts infoU8
  subst hnl
  have hlr : (L ++ R).length = L.length + m := by rw [List.length_append, hm]
  have hul : (u8s R).length = m * 1 := by rw [u8s_len, hm, Nat.mul_one]
  rcases hown with hown | ⟨g0, cs, fz, hv, hB, hby, hg⟩
  · refine wpList_append_lies (P := Try.prog) w hgd s x 25 ho B 5 i0 (.int .u8 0) 1 1 Try.underlying25 hi0 hz0 hz1 hz2 rfl (by decide) v L.length (u8s L) hs hown ad m c (u8s R) hx hul hnews (u8s_one R) hpos (by unfold maxLen; omega) (by omega) hbase w.heap.size rfl ?_
    intro g cap w' h2 h3 h4 h5
    rw [← u8s_append] at h2
    exact h g cap w' (.inl (by rw [hlr]; exact h2)) (Lib.hid h2) (gr_push h3 h4 rfl)
  · subst hv
    refine wpList_append_grows (P := Try.prog) w hgd s x 25 ho 5 i0 (.int .u8 0) 1 1 Try.underlying25 hi0 hz0 hz1 hz2 rfl (by decide) (some ⟨g0, 0, none⟩) L.length L.length (u8s L) hs (fun e => by cases e) (by rw [u8s_len, Nat.mul_one]) (fun b hb j u hj => by cases hb; exact bytes_news hby j u hj) ad m c (u8s R) hx hul hnews (u8s_one R) (by omega) (by unfold maxLen; omega) (by omega) ?_
    intro v' w' h2 h3
    rw [← u8s_append] at h2
    obtain ⟨g, cap, rfl, hgB, hgl⟩ := h2.form (by omega)
    have h2' : w'.ownsRow B 5 1 (.slice (some ⟨g, 0, none⟩) (L.length + m) cap) (L.length + m) (u8s (L ++ R)) := own_weak h2 hbase
    refine h g cap w' (.inl (by rw [hlr]; exact h2')) (Lib.hid h2') ⟨⟨h3.os, h3.tape, h3.output, h3.size, fun k hk _ => h3.block k hk (by simp)⟩, .inr fun k hk => ?_⟩
    simp only [Value.ownBlock, Option.some.injEq] at hk
    omega
end Go.Proofs.Ytmhjabodhgacnaa
