/- Texts that a proof rests on: A shown pattern is read as itself: the steps. | A shown pattern is read as itself. | How long a shown pattern may be that was read. | PatternBack answers true. -/
import Derived.Test.YtkpfpegjapddfaaGreatDoorK29
import Derived.Test.YtkpfpegjapddfaaGreatDoorK35
set_option maxRecDepth 20000
namespace Go.Proofs.YtkpfpegjapddfaaGreatDoor
open Go.RowKit

/-- No ending comes next. -/
def noRep (r : List UInt8) : Prop := repR r = .ok (none, 0)
def Beg (T : List UInt8) : Prop := ∃ x t, T = x :: t ∧ x.toNat ≠ 124 ∧ x.toNat ≠ 38 ∧ x.toNat ≠ 41 ∧ x.toNat ≠ 42 ∧ x.toNat ≠ 43 ∧ x.toNat ≠ 63 ∧ x.toNat ≠ 123
def stop1 (r : List UInt8) : Prop := r = [] ∨ ∃ t, r = 41 :: t
def stop2 (r : List UInt8) : Prop := r = [] ∨ ∃ x t, r = x :: t ∧ (x = 41 ∨ x = 124)
theorem stop1.two {r : List UInt8} (h : stop1 r) : stop2 r := by
  rcases h with rfl | ⟨t, rfl⟩
  · exact .inl rfl
  · exact .inr ⟨41, t, rfl, .inl rfl⟩
theorem stop2.stop {r : List UInt8} (h : stop2 r) : stopB r = true := by
  rcases h with rfl | ⟨x, t, rfl, rfl | rfl⟩ <;> rfl
theorem noRep_cons {x : UInt8} {t : List UInt8} (h1 : x.toNat ≠ 42) (h2 : x.toNat ≠ 43) (h3 : x.toNat ≠ 63) (h4 : x.toNat ≠ 123) : noRep (x :: t) := by
  have hx : x ≠ 123 := by rintro rfl; exact h4 rfl
  show (if x = 123 then (match countR t with | .ok (p, n) => Except.ok (some p, n + 1) | .error d => .error (d + 1)) else match opB x.toNat with | some p => .ok (some p, 1) | none => .ok (none, 0)) = _
  rw [if_neg hx]
  have : opB x.toNat = none := by
    unfold opB
    rw [if_neg h1, if_neg h2, if_neg h3]
  rw [this]
theorem Beg.noRep {T : List UInt8} (h : Beg T) (r : List UInt8) : noRep (T ++ r) := by
  obtain ⟨x, t, rfl, _, _, _, h1, h2, h3, h4⟩ := h
  exact noRep_cons h1 h2 h3 h4
theorem Beg.goes {T : List UInt8} (h : Beg T) (r : List UInt8) : stopB (T ++ r) = false := by
  obtain ⟨x, t, rfl, h1, h2, h3, _⟩ := h
  unfold stopB
  rw [List.cons_append, seesB_ne h1, seesB_ne h2, seesB_ne h3]
  rfl
theorem Beg.pos {T : List UInt8} (h : Beg T) : 0 < T.length := by
  obtain ⟨x, t, rfl, _⟩ := h
  simp
theorem noRep_stop {r : List UInt8} (h : stopB r = true) : noRep r := by
  cases r with
  | nil => rfl
  | cons x t =>
    have : x.toNat = 124 ∨ x.toNat = 38 ∨ x.toNat = 41 := by
      simpa [stopB, seesB, or_assoc] using h
    exact noRep_cons (by omega) (by omega) (by omega) (by omega)
/-- An atom and its endings. -/
def RL (d : Nat) (p : Pat) (T : List UInt8) : Prop := ∃ q m j, m ≤ T.length ∧ j ≤ T.length - m ∧ (∀ r, atomR d (T ++ r) = .ok (q, m)) ∧ (∀ f r, repLoop (f + j) ((T ++ r).drop m) q = shiftR (T.length - m) (repLoop f r p)) ∧ Beg T ∧ seesB T 126 = false
def It (d : Nat) (p : Pat) (T : List UInt8) : Prop := ∃ n q T', p = notP n q ∧ T = List.replicate n 126 ++ T' ∧ RL d q T'
def Sq (d : Nat) (p : Pat) (T : List UInt8) : Prop := ∀ r, stopB r = true → seqR (itemR (atomR d)) (T ++ r) = .ok (p, T.length)
def Cn (d : Nat) (p : Pat) (T : List UInt8) : Prop := ∀ r, stop2 r → conR (atomR d) (T ++ r) = .ok (p, T.length)
def Pt (d : Nat) (p : Pat) (T : List UInt8) : Prop := ∀ r, stop1 r → patR (atomR d) (T ++ r) = .ok (p, T.length)
/-- A text is read as a pattern at a level. -/
def St : Nat → Nat → Pat → List UInt8 → Prop
  | 0 => Pt
  | 1 => Cn
  | 2 => Sq
  | 3 => It
  | _ => RL
theorem nots_rep (T : List UInt8) (h : seesB T 126 = false) : ∀ n, notsN (List.replicate n 126 ++ T) = n
  | 0 => notsN_no h
  | n + 1 => by
    rw [List.replicate_succ, List.cons_append, notsN_yes (c := 126) rfl rfl, nots_rep T h n]
theorem It.beg {d : Nat} {p : Pat} {T : List UInt8} (h : It d p T) : Beg T := by
  obtain ⟨n, q, T', _, rfl, _, _, _, _, _, _, _, hb, _⟩ := h
  cases n with
  | zero => exact hb
  | succ n => exact ⟨126, _, rfl, by decide⟩
theorem It.item {d : Nat} {p : Pat} {T : List UInt8} (h : It d p T) (r : List UInt8) (hr : noRep r) : itemR (atomR d) (T ++ r) = .ok (p, T.length) := by
  obtain ⟨n, q', T', rfl, rfl, q, m, j, hm, hj, ha, hl, hb, h126⟩ := h
  have hT : T' ≠ [] := fun e => by have := hb.pos; rw [e] at this; simp at this
  have hn : notsN (List.replicate n 126 ++ T' ++ r) = n := by
    rw [List.append_assoc]
    exact nots_rep _ (by rw [sees_app r _ hT]; exact h126) n
  have hd : (List.replicate n 126 ++ T' ++ r).drop n = T' ++ r := by
    rw [List.append_assoc, List.drop_append_of_le_length (by simp), List.drop_of_length_le (by simp)]
    rfl
  have hlen : (List.replicate n (126 : UInt8) ++ T' ++ r).length = n + T'.length + r.length := by simp; omega
  unfold itemR
  rw [hn, hd, ha r]
  simp only
  have hd2 : (List.replicate n 126 ++ T' ++ r).drop (n + m) = (T' ++ r).drop m := by rw [← List.drop_drop, hd]
  rw [hd2, hlen]
  obtain ⟨f, hf⟩ : ∃ f, n + T'.length + r.length + 1 = f + 1 + j := ⟨n + T'.length + r.length - j, by omega⟩
  rw [hf, hl, repLoop_end hr]
  simp [shiftR, mapR]
  omega
theorem It.sq {d : Nat} {p : Pat} {T : List UInt8} (h : It d p T) : Sq d p T := by
  intro r hr
  have hb := h.beg
  have hp := hb.pos
  unfold seqR
  have hi := h.item r (noRep_stop hr)
  have hg := seqLoop_go (f := (T ++ r).length) [] 0 (hb.goes r) hi
  rw [List.drop_left] at hg
  have e : ∀ x : Except Nat (List Pat × Nat), comb [] 0 x = x := by
    intro x
    rcases x with a | ⟨b, c⟩ <;> simp [comb]
  rw [e] at hg
  rw [hg]
  obtain ⟨k, hk⟩ : ∃ k, (T ++ r).length = k + 1 := ⟨(T ++ r).length - 1, by rw [List.length_append]; omega⟩
  rw [hk, seqLoop_stop hr]
  simp [comb, jr, joinP]
theorem row_one_part {part : List UInt8 → Except Nat (Pat × Nat)} {op : Int} {sep : Nat} {T r : List UInt8} {p : Pat} (h : part (T ++ r) = .ok (p, T.length)) (hs : seesB r sep = false) : rowR part op sep (T ++ r) = .ok (p, T.length) := by
  unfold rowR
  rw [h]
  simp only
  rw [List.drop_left, rowLoop_stop hs]
  rfl
theorem Sq.cn {d : Nat} {p : Pat} {T : List UInt8} (h : Sq d p T) : Cn d p T := by
  intro r hr
  exact row_one_part (h r hr.stop) (by rcases hr with rfl | ⟨x, t, rfl, rfl | rfl⟩ <;> rfl)
theorem Cn.pt {d : Nat} {p : Pat} {T : List UInt8} (h : Cn d p T) : Pt d p T := by
  intro r hr
  exact row_one_part (part := conR (atomR d)) (h r hr.two) (by rcases hr with rfl | ⟨t, rfl⟩ <;> rfl)
theorem RL.it {d : Nat} {p : Pat} {T : List UInt8} (h : RL d p T) : It d p T := ⟨0, p, T, rfl, rfl, h⟩
theorem St.down {d : Nat} {p : Pat} {T : List UInt8} : ∀ {j i : Nat}, St j d p T → j ≤ 4 → i ≤ j → St i d p T
  | 0, i, h, _, hi => by
    obtain rfl : i = 0 := by omega
    exact h
  | 1, i, h, _, hi => by
    rcases Nat.lt_or_ge i 1 with h1 | h1
    · exact St.down (j := 0) (Cn.pt h) (by omega) (by omega)
    · obtain rfl : i = 1 := by omega
      exact h
  | 2, i, h, _, hi => by
    rcases Nat.lt_or_ge i 2 with h1 | h1
    · exact St.down (j := 1) (Sq.cn h) (by omega) (by omega)
    · obtain rfl : i = 2 := by omega
      exact h
  | 3, i, h, _, hi => by
    rcases Nat.lt_or_ge i 3 with h1 | h1
    · exact St.down (j := 2) (It.sq h) (by omega) (by omega)
    · obtain rfl : i = 3 := by omega
      exact h
  | 4, i, h, _, hi => by
    rcases Nat.lt_or_ge i 4 with h1 | h1
    · exact St.down (j := 3) (RL.it h) (by omega) (by omega)
    · obtain rfl : i = 4 := by omega
      exact h
  | j + 5, _, _, h, _ => by omega
/-- With more brackets to spare. -/
theorem RL.mono {d : Nat} {p : Pat} {T : List UInt8} (h : RL d p T) : RL (d + 1) p T := by
  obtain ⟨q, m, j, h1, h2, h3, h4⟩ := h
  exact ⟨q, m, j, h1, h2, fun r => atom_mono d _ _ _ (h3 r), h4⟩
theorem St.mono {d : Nat} {p : Pat} {T : List UInt8} : ∀ {j : Nat}, St j d p T → St j (d + 1) p T
  | 0, h => fun r hr => pat_mono (atom_mono d) _ _ _ (h r hr)
  | 1, h => fun r hr => row_mono (seq_mono (item_mono (atom_mono d))) _ _ _ _ _ (h r hr)
  | 2, h => fun r hr => seq_mono (item_mono (atom_mono d)) _ _ _ (h r hr)
  | 3, h => by
    obtain ⟨n, q, T', h1, h2, h3⟩ := h
    exact ⟨n, q, T', h1, h2, h3.mono⟩
  | _ + 4, h => RL.mono h
theorem Pt.group {d : Nat} {p : Pat} {T : List UInt8} (h : Pt d p T) : RL (d + 1) p ([40] ++ T ++ [41]) := by
  refine ⟨p, T.length + 2, 0, by simp, by omega, fun r => ?_, fun f r => ?_, ⟨40, T ++ [41], by simp, by decide⟩, rfl⟩
  · have e : [40] ++ T ++ [41] ++ r = 40 :: (T ++ (41 :: r)) := by simp
    rw [e]
    show (if seesB (40 :: (T ++ (41 :: r))) 40 = true then groupR (patR (atomR d)) (40 :: (T ++ (41 :: r))) else _) = _
    rw [if_pos (by rfl)]
    unfold groupR
    have hd : (40 :: (T ++ (41 :: r))).drop 1 = T ++ (41 :: r) := rfl
    rw [hd, h (41 :: r) (.inr ⟨r, rfl⟩)]
    simp only
    have hd2 : (40 :: (T ++ (41 :: r))).drop (T.length + 1) = 41 :: r := by
      rw [List.drop_succ_cons, List.drop_left]
    rw [hd2, if_pos (by rfl)]
  · have e : ([40] ++ T ++ [41] ++ r).drop (T.length + 2) = r := by
      rw [List.drop_append_of_le_length (by simp), List.drop_of_length_le (by simp)]
      rfl
    rw [e]
    have : ([40] ++ T ++ [41]).length - (T.length + 2) = 0 := by simp
    rw [this, shiftR_zero]
    rfl
/-- Parts with a separator between. -/
theorem row_parts {part : List UInt8 → Except Nat (Pat × Nat)} {sep : UInt8} {least : Int} {r : List UInt8} {b : Nat} (hb : sep.toNat = b) (hs : seesB r b = false) (G : List UInt8 → Prop) (hg : G r) (hg1 : ∀ t, G (sep :: t)) : ∀ (ps : List Pat) (f : Nat), (∀ p ∈ ps, ∀ t, G t → part (partOf least p.shw ++ t) = .ok (p, (partOf least p.shw).length)) → (ps.flatMap (fun y => [sep] ++ partOf least y.shw)).length < f → rowLoop part b f (ps.flatMap (fun y => [sep] ++ partOf least y.shw) ++ r) = .ok (ps, (ps.flatMap (fun y => [sep] ++ partOf least y.shw)).length)
  | _, 0, _, h => by omega
  | [], f + 1, _, _ => rowLoop_stop hs
  | p :: ps, f + 1, hp, hf => by
    have e : (p :: ps).flatMap (fun y => [sep] ++ partOf least y.shw) ++ r = sep :: (partOf least p.shw ++ (ps.flatMap (fun y => [sep] ++ partOf least y.shw) ++ r)) := by simp
    have el : ((p :: ps).flatMap (fun y => [sep] ++ partOf least y.shw)).length = (partOf least p.shw).length + 1 + (ps.flatMap (fun y => [sep] ++ partOf least y.shw)).length := by
      rw [List.flatMap_cons, List.length_append, List.length_append]
      simp
      omega
    rw [el] at hf
    have hG : G (ps.flatMap (fun y => [sep] ++ partOf least y.shw) ++ r) := by
      cases ps with
      | nil => exact hg
      | cons q qs => exact hg1 _
    have h1 := hp p (by simp) _ hG
    have hgo := rowLoop_go (f := f) [] 0 (l := sep :: (partOf least p.shw ++ (ps.flatMap (fun y => [sep] ++ partOf least y.shw) ++ r))) (sep := b) (part := part) (by show decide _ = true; simp [hb]) (p := p) (n := (partOf least p.shw).length) h1
    have ec : ∀ x : Except Nat (List Pat × Nat), comb [] 0 x = x := by
      intro x
      rcases x with a | ⟨b, c⟩ <;> simp [comb]
    rw [ec] at hgo
    rw [e, hgo, List.drop_succ_cons, List.drop_left, row_parts hb hs G hg hg1 ps f (fun q hq => hp q (List.mem_cons_of_mem _ hq)) (by omega), el]
    simp [comb]
/-- Items one behind the other. -/
theorem seq_parts {d : Nat} {r : List UInt8} (hr : stopB r = true) : ∀ (ps : List Pat) (f : Nat), (∀ p ∈ ps, It d p (partOf 3 p.shw)) → (ps.flatMap (fun y => partOf 3 y.shw)).length < f → seqLoop (itemR (atomR d)) f (ps.flatMap (fun y => partOf 3 y.shw) ++ r) = .ok (ps, (ps.flatMap (fun y => partOf 3 y.shw)).length)
  | _, 0, _, h => by omega
  | [], f + 1, _, _ => seqLoop_stop hr
  | p :: ps, f + 1, hp, hf => by
    have e : (p :: ps).flatMap (fun y => partOf 3 y.shw) ++ r = partOf 3 p.shw ++ (ps.flatMap (fun y => partOf 3 y.shw) ++ r) := by simp
    have el : ((p :: ps).flatMap (fun y => partOf 3 y.shw)).length = (partOf 3 p.shw).length + (ps.flatMap (fun y => partOf 3 y.shw)).length := by
      rw [List.flatMap_cons, List.length_append]
    have hI := hp p (by simp)
    have hpos := hI.beg.pos
    rw [el] at hf
    have hn : noRep (ps.flatMap (fun y => partOf 3 y.shw) ++ r) := by
      cases ps with
      | nil => exact noRep_stop hr
      | cons q qs =>
        rw [List.flatMap_cons, List.append_assoc]
        exact (hp q (by simp)).beg.noRep _
    have hgo := seqLoop_go (f := f) [] 0 (hI.beg.goes _) (hI.item _ hn)
    have ec : ∀ x : Except Nat (List Pat × Nat), comb [] 0 x = x := by
      intro x
      rcases x with a | ⟨b, c⟩ <;> simp [comb]
    rw [ec, List.drop_left] at hgo
    rw [e, hgo, seq_parts hr ps f (fun q hq => hp q (List.mem_cons_of_mem _ hq)) (by omega), el]
    simp [comb]
end Go.Proofs.YtkpfpegjapddfaaGreatDoor
set_option maxRecDepth 20000
namespace Go.Proofs.YtkpfpegjapddfaaGreatDoor
open Go.RowKit

/-- A pattern that was read at level i with d brackets to spare is shown so that it is read again, wherever its level lets it stand. -/
def K (i d : Nat) (p : Pat) : Prop := 0 ≤ p.shw.1 ∧ ∀ j : Nat, j ≤ 4 → (j ≤ i ∨ (j : Int) ≤ p.shw.1) → St j d p (partOf j p.shw)
theorem part_plain {least : Int} {x : Int × List UInt8} (h : least ≤ x.1) : partOf least x = x.2 := by
  unfold partOf
  rw [if_neg (by omega)]
theorem part_in {least : Int} {x : Int × List UInt8} (h : ¬ least ≤ x.1) : partOf least x = [40] ++ x.2 ++ [41] := by
  unfold partOf
  rw [if_pos (by omega)]
theorem K.mono {i d : Nat} {p : Pat} (h : K i d p) : K i (d + 1) p := ⟨h.1, fun j hj hi => (h.2 j hj hi).mono⟩
theorem K.less {i i' d : Nat} {p : Pat} (h : K i d p) (hi : i' ≤ i) : K i' d p := ⟨h.1, fun j hj hk => h.2 j hj (hk.elim (fun a => .inl (by omega)) .inr)⟩
theorem K.group {d : Nat} {p : Pat} (h : K 0 d p) : K 4 (d + 1) p := by
  refine ⟨h.1, fun j hj _ => ?_⟩
  by_cases hl : (j : Int) ≤ p.shw.1
  · exact (h.2 j hj (.inr hl)).mono
  · rw [part_in hl]
    have h0 : Pt d p (partOf (0 : Nat) p.shw) := h.2 0 (by omega) (.inl (by omega))
    rw [part_plain (by simpa using h.1)] at h0
    exact St.down (j := 4) h0.group (by omega) hj
/-- What stands at its own level i is read. -/
theorem K.of {i d : Nat} {p : Pat} (hi : i ≤ 4) (hl : p.shw.1 = i) (h : St i d p p.shw.2) : K i d p := by
  refine ⟨by omega, fun j hj hk => ?_⟩
  have hji : j ≤ i := by omega
  rw [part_plain (by omega)]
  exact h.down hi hji
theorem leaf_K (d : Nat) (s : BitVec 256) : K 4 d (setP s) := by
  have hs : (setP s).shw = (4, classOut s) := rfl
  refine K.of (by omega) (by rw [hs]; rfl) ?_
  rw [hs]
  obtain ⟨x, t, e, h40, h1, h2, h3, h4, h5⟩ := class_head s
  show RL d (setP s) (classOut s)
  refine ⟨setP s, (classOut s).length, 0, Nat.le_refl _, Nat.zero_le _, fun r => ?_, fun f r => ?_, ⟨x, t, e, h2, h3, h4, h5⟩, by rw [e]; exact seesB_ne h1⟩
  · have hn : seesB (classOut s ++ r) 40 = false := by rw [e, List.cons_append]; exact seesB_ne h40
    cases d with
    | zero =>
      show (if seesB (classOut s ++ r) 40 = true then _ else leafR (classOut s ++ r)) = _
      rw [if_neg (by rw [hn]; decide)]
      exact class_leaf s r
    | succ d =>
      show (if seesB (classOut s ++ r) 40 = true then _ else leafR (classOut s ++ r)) = _
      rw [if_neg (by rw [hn]; decide)]
      exact class_leaf s r
  · rw [List.drop_left]
    have : (classOut s).length - (classOut s).length = 0 := by omega
    show repLoop (f + 0) r _ = _
    rw [this, shiftR_zero]
    rfl
theorem digs_small : ∀ n : Fin 33, Lib.decDigits n.val = if n.val < 10 then [UInt8.ofNat (48 + n.val)] else [UInt8.ofNat (48 + n.val / 10), UInt8.ofNat (48 + n.val % 10)] := by decide +kernel
/-- An ending's text with the digits written out. -/
def repOut2 (lo hi : Int) : List UInt8 := match opT lo (max hi (-1)) with
  | some b => [UInt8.ofNat b.toNat]
  | none => [123] ++ dg lo.toNat ++ ((if max hi (-1) ≠ lo then [44] else []) ++ ((if max hi (-1) ≠ lo ∧ max hi (-1) ≠ -1 then dg hi.toNat else []) ++ [125]))
where dg (n : Nat) : List UInt8 := if n < 10 then [UInt8.ofNat (48 + n)] else [UInt8.ofNat (48 + n / 10), UInt8.ofNat (48 + n % 10)]
def repIs (l : List UInt8) (a b : Int) : Bool := match repR l with
  | .ok (some (x, y), m) => decide (x = a) && (decide (y = b) && decide (m = l.length))
  | _ => false
theorem repIs_eq {l : List UInt8} {a b : Int} (h : repIs l a b = true) : repR l = .ok (some (a, b), l.length) := by
  unfold repIs at h
  split at h
  · rename_i x y m hr
    simp only [Bool.and_eq_true, decide_eq_true_eq] at h
    obtain ⟨rfl, rfl, rfl⟩ := h
    exact hr
  · exact absurd h (by decide)
theorem rep_table : ∀ (a : Fin 33) (b : Fin 34), (b.val = 0 ∨ a.val + 1 ≤ b.val) → repIs (repOut2 a.val ((b.val : Int) - 1)) a.val ((b.val : Int) - 1) = true := by decide +kernel
theorem rep_same (lo hi : Int) (h0 : 0 ≤ lo) (h1 : lo ≤ 32) (h2 : -1 ≤ hi) (h3 : hi ≤ 32) : repOut lo hi = repOut2 lo hi := by
  have a := digs_small ⟨lo.toNat, by omega⟩
  have b := digs_small ⟨hi.toNat, by omega⟩
  unfold repOut repOut2
  simp only at a b
  rw [a, b]
  rfl
/-- Numbers as an ending may have them. -/
def Nums (lo hi : Int) : Prop := 0 ≤ lo ∧ lo ≤ 32 ∧ -1 ≤ hi ∧ hi ≤ 32 ∧ (hi = -1 ∨ lo ≤ hi)
theorem rep_read {lo hi : Int} (h : Nums lo hi) (r : List UInt8) : repR (repOut lo hi ++ r) = .ok (some (lo, hi), (repOut lo hi).length) := by
  obtain ⟨h0, h1, h2, h3, h4⟩ := h
  have ht := repIs_eq (rep_table ⟨lo.toNat, by omega⟩ ⟨(hi + 1).toNat, by omega⟩ (by simp only; omega))
  have e1 : ((lo.toNat : Nat) : Int) = lo := by omega
  have e2 : (((hi + 1).toNat : Nat) : Int) - 1 = hi := by omega
  simp only [e1, e2] at ht
  rw [rep_same lo hi h0 h1 h2 h3]
  refine repR_app r (fun e => ?_) ht
  rw [e] at ht
  exact absurd ht (by simp [repR])
theorem numB_pos {l : List UInt8} {n k : Nat} (h : numB l = some (n, k)) : n ≤ 32 := (numB_le h).2.2
theorem count_nums {l : List UInt8} {p : Int × Int} {n : Nat} (h : countR l = .ok (p, n)) : Nums p.1 p.2 := by
  unfold countR at h
  cases hn : numB l with
  | none => rw [hn] at h; simp at h
  | some x =>
    obtain ⟨a, k⟩ := x
    have ha := numB_pos hn
    rw [hn] at h
    simp only at h
    by_cases h1 : seesB (l.drop k) 44 = true
    · rw [if_pos h1] at h
      cases hu : upperR (l.drop (k + 1)) with
      | error e => rw [hu] at h; simp at h
      | ok y =>
        obtain ⟨b, k2⟩ := y
        have hb := upperR_le hu
        rw [hu] at h
        simp only at h
        by_cases h2 : b ≠ -1 ∧ b < a
        · rw [if_pos h2] at h; simp at h
        · rw [if_neg h2] at h
          by_cases h3 : seesB (l.drop (k + 1 + k2)) 125 = true
          · rw [if_pos h3] at h
            simp only [Except.ok.injEq, Prod.mk.injEq] at h
            rw [← h.1]
            refine ⟨by simp, by simp <;> omega, by simp <;> omega, by simp <;> omega, ?_⟩
            simp only
            by_cases hb1 : b = -1
            · exact .inl hb1
            · exact .inr (by omega)
          · rw [if_neg h3] at h; simp at h
    · rw [if_neg h1] at h
      by_cases h3 : seesB (l.drop k) 125 = true
      · rw [if_pos h3] at h
        simp only [Except.ok.injEq, Prod.mk.injEq] at h
        rw [← h.1]
        refine ⟨by simp, by simp <;> omega, by simp <;> omega, by simp <;> omega, .inr (by simp)⟩
      · rw [if_neg h3] at h; simp at h
theorem rep_nums {l : List UInt8} {a b : Int} {n : Nat} (h : repR l = .ok (some (a, b), n)) : Nums a b := by
  cases l with
  | nil => simp [repR] at h
  | cons c t =>
    have h' : (if c = 123 then (match countR t with | .ok (p, n) => Except.ok (some p, n + 1) | .error d => .error (d + 1)) else match opB c.toNat with | some p => .ok (some p, 1) | none => .ok (none, 0)) = Except.ok (some (a, b), n) := h
    by_cases hc : c = 123
    · rw [if_pos hc] at h'
      cases hk : countR t with
      | error d => rw [hk] at h'; simp at h'
      | ok y =>
        obtain ⟨p, m⟩ := y
        rw [hk] at h'
        have := count_nums hk
        simp only [Except.ok.injEq, Prod.mk.injEq, Option.some.injEq] at h'
        rw [h'.1] at this
        exact this
    · rw [if_neg hc] at h'
      have ho : opB c.toNat = some (0, -1) ∨ opB c.toNat = some (1, -1) ∨ opB c.toNat = some (0, 1) ∨ opB c.toNat = none := by
        unfold opB
        repeat' split
        all_goals simp
      rcases ho with e | e | e | e
      all_goals rw [e] at h'
      all_goals simp at h'
      all_goals obtain ⟨⟨rfl, rfl⟩, _⟩ := h'
      all_goals (unfold Nums; decide)
theorem rep_K {d : Nat} {k : Pat} {lo hi : Int} (h : K 4 d k) (hn : Nums lo hi) : K 4 d (Pat.mk 3 0 lo hi [k]) := by
  have hs : (Pat.mk 3 0 lo hi [k]).shw = (4, partOf 4 k.shw ++ repOut lo hi) := by
    rw [shw_self (by simp [isL, Pat.op])]
    simp [Pat.op, Pat.kids, Pat.lo, Pat.hi, levOf, textOf, Pat.shws, rowO]
  obtain ⟨q, m, j, h1, h2, h3, h4, h5, h6⟩ : RL d k (partOf (4 : Nat) k.shw) := h.2 4 (by omega) (.inl (by omega))
  have hrl := rep_read hn
  have hpos : 0 < (repOut lo hi).length := by
    have := repR_le (hrl [])
    rw [List.append_nil] at this
    exact this.2 rfl
  refine K.of (by omega) (by rw [hs]; rfl) ?_
  rw [hs]
  have h5' := h5
  obtain ⟨x, t, hx, h7⟩ := h5'
  refine ⟨q, m, j + 1, ?_, ?_, fun r => ?_, fun f r => ?_, ?_, ?_⟩
  · rw [List.length_append]; exact Nat.le_trans h1 (by simp)
  · rw [List.length_append]
    have : (partOf (4 : Int) k.shw).length = (partOf (4 : Nat) k.shw).length := rfl
    omega
  · rw [List.append_assoc]
    exact h3 _
  · rw [List.append_assoc, ← Nat.add_assoc, Nat.add_right_comm]
    rw [show (partOf (4 : Int) k.shw) = (partOf (4 : Nat) k.shw) from rfl, h4, repLoop_go (hrl r), List.drop_left, shiftR_add, List.length_append]
    congr 1
    omega
  · exact ⟨x, t ++ repOut lo hi, by rw [show (partOf (4 : Int) k.shw) = (partOf (4 : Nat) k.shw) from rfl, hx]; rfl, h7⟩
  · rw [sees_app _ _ (fun e => by have := h5.pos; rw [show (partOf (4 : Nat) k.shw) = (partOf (4 : Int) k.shw) from rfl, e] at this; simp at this)]
    exact h6
theorem not_K {d : Nat} {k : Pat} (h : K 3 d k) : K 3 d (Pat.mk 5 0 0 0 [k]) := by
  have hs : (Pat.mk 5 0 0 0 [k]).shw = (3, 126 :: partOf 3 k.shw) := by
    rw [shw_self (by simp [isL, Pat.op])]
    simp [Pat.op, Pat.kids, levOf, textOf, Pat.shws, rowO]
  obtain ⟨n, q, T', h1, h2, h3⟩ : It d k (partOf (3 : Nat) k.shw) := h.2 3 (by omega) (.inl (by omega))
  refine K.of (by omega) (by rw [hs]; rfl) ?_
  rw [hs]
  refine ⟨n + 1, q, T', ?_, ?_, h3⟩
  · rw [h1]; rfl
  · show 126 :: partOf (3 : Nat) k.shw = _
    rw [h2]; rfl
theorem nots_K {d : Nat} {k : Pat} (h : K 3 d k) : ∀ n, K 3 d (notP n k)
  | 0 => h
  | n + 1 => not_K (nots_K h n)
theorem rowO_map (sep : List UInt8) (least : Int) (p : Pat) (ps : List Pat) : rowO sep least (Pat.shws (p :: ps)) = partOf least p.shw ++ ps.flatMap (fun y => sep ++ partOf least y.shw) := by
  rw [Pat.shws, rowO, shws_map, List.flatMap_map]
theorem rowO_flat (least : Int) (ps : List Pat) : rowO [] least (Pat.shws ps) = ps.flatMap (fun y => partOf least y.shw) := by
  cases ps with
  | nil => rfl
  | cons p ps =>
    rw [rowO_map]
    simp
theorem cat_K {d : Nat} {ps : List Pat} (h : ∀ p ∈ ps, K 3 d p) : K 2 d (joinP 1 ps) := by
  have key : ps.length ≠ 1 → K 2 d (Pat.mk 1 0 0 0 ps) := by
    intro hl
    have hs : (Pat.mk 1 0 0 0 ps).shw = (2, ps.flatMap (fun y => partOf 3 y.shw)) := by
      rw [shw_self (by simp [isL, Pat.op, Pat.kids, hl])]
      simp [Pat.op, Pat.kids, levOf, textOf, rowO_flat]
    refine K.of (by omega) (by rw [hs]; rfl) ?_
    rw [hs]
    intro r hr
    unfold seqR
    simp only
    rw [seq_parts hr ps _ (fun p hp => (h p hp).2 3 (by omega) (.inl (by omega))) (by rw [List.length_append]; omega)]
    rcases ps with _ | ⟨p, _ | ⟨q, ps⟩⟩
    · rfl
    · exact absurd rfl hl
    · rfl
  rcases ps with _ | ⟨p, _ | ⟨q, ps⟩⟩
  · exact key (by simp)
  · exact (h p (by simp)).less (by omega)
  · exact key (by simp)
theorem and_K {d : Nat} {p : Pat} {ps : List Pat} (h : ∀ q ∈ p :: ps, K 2 d q) : K 1 d (joinP 4 (p :: ps)) := by
  rcases ps with _ | ⟨q, ps⟩
  · exact (h p (by simp)).less (by omega)
  · have hs : (Pat.mk 4 0 0 0 (p :: q :: ps)).shw = (1, partOf 2 p.shw ++ (q :: ps).flatMap (fun y => [38] ++ partOf 2 y.shw)) := by
      rw [shw_self (by simp [isL, Pat.op, Pat.kids])]
      simp only [Pat.op, Pat.kids, Pat.set, Pat.lo, Pat.hi]
      unfold textOf
      rw [if_neg (by decide), if_neg (by decide), if_neg (by decide), if_pos rfl, rowO_map]
      simp [levOf, Pat.shws]
    have hq : ∀ x ∈ p :: q :: ps, ∀ t, stopB t = true → seqR (itemR (atomR d)) (partOf 2 x.shw ++ t) = .ok (x, (partOf 2 x.shw).length) := fun x hx t ht => (h x hx).2 2 (by omega) (.inl (by omega)) t ht
    show K 1 d (Pat.mk 4 0 0 0 (p :: q :: ps))
    refine K.of (by omega) (by rw [hs]; rfl) ?_
    rw [hs]
    intro r hr
    have hr38 : seesB r 38 = false := by rcases hr with rfl | ⟨x, t, rfl, rfl | rfl⟩ <;> rfl
    simp only
    rw [List.append_assoc]
    unfold conR rowR
    rw [hq p (by simp) _ (by rw [List.flatMap_cons]; rfl)]
    simp only
    rw [List.drop_left, row_parts (sep := 38) (b := 38) rfl hr38 (fun t => stopB t = true) hr.stop (fun _ => rfl) (q :: ps) _ (fun x hx t ht => hq x (List.mem_cons_of_mem _ hx) t ht) (by rw [List.length_append, List.length_append]; omega)]
    simp only [List.length_append]
    rfl
theorem alt_K {d : Nat} {p : Pat} {ps : List Pat} (h : ∀ q ∈ p :: ps, K 1 d q) : K 0 d (joinP 2 (p :: ps)) := by
  rcases ps with _ | ⟨q, ps⟩
  · exact (h p (by simp)).less (by omega)
  · have hs : (Pat.mk 2 0 0 0 (p :: q :: ps)).shw = (0, partOf 1 p.shw ++ (q :: ps).flatMap (fun y => [124] ++ partOf 1 y.shw)) := by
      rw [shw_self (by simp [isL, Pat.op, Pat.kids])]
      simp only [Pat.op, Pat.kids, Pat.set, Pat.lo, Pat.hi]
      unfold textOf
      rw [if_neg (by decide), if_neg (by decide), if_pos rfl, rowO_map]
      simp [levOf, Pat.shws]
    have hq : ∀ x ∈ p :: q :: ps, ∀ t, stop2 t → conR (atomR d) (partOf 1 x.shw ++ t) = .ok (x, (partOf 1 x.shw).length) := fun x hx t ht => (h x hx).2 1 (by omega) (.inl (by omega)) t ht
    show K 0 d (Pat.mk 2 0 0 0 (p :: q :: ps))
    refine K.of (by omega) (by rw [hs]; rfl) ?_
    rw [hs]
    intro r hr
    have hr38 : seesB r 124 = false := by rcases hr with rfl | ⟨t, rfl⟩ <;> rfl
    simp only
    rw [List.append_assoc]
    show rowR (conR (atomR d)) 2 124 _ = _
    unfold rowR
    rw [hq p (by simp) _ (by rw [List.flatMap_cons]; exact .inr ⟨124, _, rfl, .inr rfl⟩)]
    simp only
    rw [List.drop_left, row_parts (sep := 124) (b := 124) rfl hr38 stop2 hr.two (fun t => .inr ⟨124, t, rfl, .inr rfl⟩) (q :: ps) _ (fun x hx t ht => hq x (List.mem_cons_of_mem _ hx) t ht) (by rw [List.length_append, List.length_append]; omega)]
    simp only [List.length_append]
    rfl
theorem repLoop_K {d : Nat} : ∀ (f : Nat) (l : List UInt8) (p q : Pat) (k : Nat), repLoop f l p = .ok (q, k) → K 4 d p → K 4 d q
  | 0, _, _, _, _, h, hp => by
    simp [repLoop] at h
    rw [← h.1]
    exact hp
  | f + 1, l, p, q, k, h, hp => by
    rcases hr : repR l with e | ⟨_ | ⟨x, y⟩, n⟩
    · rw [repLoop_bad hr] at h
      simp at h
    · rw [repLoop_end hr] at h
      simp at h
      rw [← h.1]
      exact hp
    · rw [repLoop_go hr] at h
      obtain ⟨m, h1, rfl⟩ := shiftR_ok h
      exact repLoop_K f _ _ _ _ h1 (rep_K hp (rep_nums hr))
theorem item_K {d : Nat} {A : List UInt8 → Except Nat (Pat × Nat)} (ha : ∀ l p n, A l = .ok (p, n) → K 4 d p) {l : List UInt8} {p : Pat} {n : Nat} (h : itemR A l = .ok (p, n)) : K 3 d p := by
  unfold itemR at h
  split at h
  · simp at h
  · rename_i q k hq
    obtain ⟨u, hu, rfl⟩ := mapR_ok h
    obtain ⟨m, hm, _⟩ := shiftR_ok hu
    exact nots_K ((repLoop_K _ _ _ _ _ hm (ha _ _ _ hq)).less (by omega)) _
theorem seqLoop_K {d : Nat} {item : List UInt8 → Except Nat (Pat × Nat)} (hi : ∀ l p n, item l = .ok (p, n) → K 3 d p) : ∀ (f : Nat) (l : List UInt8) (ps : List Pat) (k : Nat), seqLoop item f l = .ok (ps, k) → ∀ p ∈ ps, K 3 d p
  | 0, _, _, _, h => by
    simp [seqLoop] at h
    obtain ⟨rfl, rfl⟩ := h
    simp
  | f + 1, l, ps, k, h => by
    unfold seqLoop at h
    split at h
    · simp at h
      obtain ⟨rfl, rfl⟩ := h
      simp
    · split at h
      · simp at h
      · rename_i p n hp
        split at h
        · simp at h
        · rename_i qs m hq
          simp at h
          rw [← h.1]
          intro x hx
          rcases List.mem_cons.1 hx with rfl | hx
          · exact hi _ _ _ hp
          · exact seqLoop_K hi f _ _ _ hq x hx
theorem rowLoop_K {P : Pat → Prop} {part : List UInt8 → Except Nat (Pat × Nat)} {sep : Nat} (hi : ∀ l p n, part l = .ok (p, n) → P p) : ∀ (f : Nat) (l : List UInt8) (ps : List Pat) (k : Nat), rowLoop part sep f l = .ok (ps, k) → ∀ p ∈ ps, P p
  | 0, _, _, _, h => by
    simp [rowLoop] at h
    obtain ⟨rfl, rfl⟩ := h
    simp
  | f + 1, l, ps, k, h => by
    unfold rowLoop at h
    split at h
    · split at h
      · simp at h
      · rename_i p n hp
        split at h
        · simp at h
        · rename_i qs m hq
          simp at h
          rw [← h.1]
          intro x hx
          rcases List.mem_cons.1 hx with rfl | hx
          · exact hi _ _ _ hp
          · exact rowLoop_K hi f _ _ _ hq x hx
    · simp at h
      obtain ⟨rfl, rfl⟩ := h
      simp
theorem row_K {P : Pat → Prop} {part : List UInt8 → Except Nat (Pat × Nat)} {op : Int} {sep : Nat} (hi : ∀ l p n, part l = .ok (p, n) → P p) {l : List UInt8} {p : Pat} {n : Nat} (h : rowR part op sep l = .ok (p, n)) : ∃ q qs, p = joinP op (q :: qs) ∧ ∀ x ∈ q :: qs, P x := by
  unfold rowR at h
  split at h
  · simp at h
  · rename_i q k hq
    split at h
    · simp at h
    · rename_i qs m hr
      simp at h
      refine ⟨q, qs, h.1.symm, fun x hx => ?_⟩
      rcases List.mem_cons.1 hx with rfl | hx
      · exact hi _ _ _ hq
      · exact rowLoop_K hi _ _ _ _ hr x hx
theorem pat_K {d : Nat} {A : List UInt8 → Except Nat (Pat × Nat)} (ha : ∀ l p n, A l = .ok (p, n) → K 4 d p) {l : List UInt8} {p : Pat} {n : Nat} (h : patR A l = .ok (p, n)) : K 0 d p := by
  have hs : ∀ l p n, seqR (itemR A) l = .ok (p, n) → K 2 d p := by
    intro l p n h
    obtain ⟨ps, h1, rfl⟩ := jr_ok h
    exact cat_K (seqLoop_K (fun _ _ _ h => item_K ha h) _ _ _ _ h1)
  have hc : ∀ l p n, conR A l = .ok (p, n) → K 1 d p := by
    intro l p n h
    obtain ⟨q, qs, rfl, hq⟩ := row_K (P := K 2 d) hs h
    exact and_K hq
  obtain ⟨q, qs, rfl, hq⟩ := row_K (P := K 1 d) (part := conR A) hc h
  exact alt_K hq
theorem leafR_K {d : Nat} {l : List UInt8} {p : Pat} {n : Nat} (h : leafR l = .ok (p, n)) : K 4 d p := by
  unfold leafR at h
  repeat' split at h
  all_goals simp at h
  all_goals rw [← h.1]
  all_goals exact leaf_K d _
theorem atom_K : ∀ (d : Nat) (l : List UInt8) (p : Pat) (n : Nat), atomR d l = .ok (p, n) → K 4 d p
  | 0, l, p, n, h => by
    unfold atomR at h
    split at h
    · simp at h
    · exact leafR_K h
  | d + 1, l, p, n, h => by
    unfold atomR at h
    split at h
    · unfold groupR at h
      split at h
      · simp at h
      · rename_i q k hq
        have h1 := pat_K (atom_K d) hq
        split at h
        · simp at h
          rw [← h.1]
          exact h1.group
        · simp at h
    · exact leafR_K h
/-- What is read is shown as a text that is read as that again. -/
theorem whole_back {s : ByteArray} {p : Pat} (h : wholeR s = .ok p) : wholeR ⟨p.shw.2.toArray⟩ = .ok p := by
  unfold wholeR at h
  split at h
  · simp at h
  · rename_i q n hq
    split at h
    · split at h
      · rename_i hfit
        obtain rfl : q = p := by simpa using h
        have hk := pat_K (atom_K 32) hq
        have h0 : Pt 32 q (partOf (0 : Nat) q.shw) := hk.2 0 (by omega) (.inl (by omega))
        rw [part_plain (by simpa using hk.1)] at h0
        have h1 := h0 [] (.inl rfl)
        rw [List.append_nil] at h1
        have hr : rest ⟨q.shw.2.toArray⟩ 0 = q.shw.2 := by simp [rest]
        unfold wholeR
        rw [hr, h1]
        simp only
        rw [if_pos (toArr _).symm, if_pos hfit]
      · simp at h
    · simp at h
end Go.Proofs.YtkpfpegjapddfaaGreatDoor
set_option maxRecDepth 20000
namespace Go.Proofs.YtkpfpegjapddfaaGreatDoor
open Go.RowKit

theorem nodup_le : ∀ (l m : List Nat), l.Nodup → (∀ x ∈ l, x ∈ m) → l.length ≤ m.length
  | [], _, _, _ => by simp
  | x :: l, m, hn, hs => by
    have hx := hs x (by simp)
    obtain ⟨h1, h2⟩ := List.nodup_cons.1 hn
    have := nodup_le l (m.erase x) h2 fun y hy => (List.mem_erase_of_ne (by rintro rfl; exact h1 hy)).2 (hs y (by simp [hy]))
    have hp := List.length_pos_of_mem hx
    rw [List.length_erase_of_mem hx] at this
    simp only [List.length_cons]
    omega
/-- A run begins here. -/
def begins (s : BitVec 256) (b : Nat) : Prop := s.getLsbD b = true ∧ (b = 0 ∨ s.getLsbD (b - 1) = false)
theorem runs_begin (s : BitVec 256) : ∀ (m p : Nat), 256 - p ≤ m → (p = 0 ∨ s.getLsbD p = false) → ((runs s p).map Prod.fst).Nodup ∧ ∀ x ∈ (runs s p).map Prod.fst, begins s x ∧ p ≤ x
  | 0, p, hm, _ => by
    rw [runs_end (by have := fst_out (s := s) (b := p) (by omega); omega)]
    simp
  | m + 1, p, hm, h0 => by
    rcases Nat.lt_or_ge (fst s p) 256 with hl | hl
    · obtain ⟨n1, n2, n3⟩ := fst_not hl
      have he : s.getLsbD (fst (~~~s) (fst s p)) = false := by
        rcases fst_cases (~~~s) (fst s p) with ⟨_, h2, h3, _⟩ | ⟨h1, _⟩
        · rw [BitVec.getLsbD_not] at h3
          simpa [h2] using h3
        · rw [h1]
          exact BitVec.getLsbD_of_ge _ _ (by omega)
      obtain ⟨a1, a2⟩ := runs_begin s m (fst (~~~s) (fst s p)) (by omega) (.inr he)
      have hb : s.getLsbD (fst s p) = true ∧ ∀ c, p ≤ c → c < fst s p → s.getLsbD c = false := by
        rcases fst_cases s p with ⟨_, _, h3, h4⟩ | ⟨h1, _⟩
        · exact ⟨h3, h4⟩
        · omega
      have hs : begins s (fst s p) := by
        refine ⟨hb.1, ?_⟩
        rcases Nat.lt_or_ge p (fst s p) with h | h
        · exact .inr (hb.2 _ (by omega) (by omega))
        · have : fst s p = p := by omega
          rcases h0 with h0 | h0
          · exact .inl (by omega)
          · rw [← this, hb.1] at h0
            exact absurd h0 (by decide)
      rw [runs_more hl, List.map_cons]
      refine ⟨List.nodup_cons.2 ⟨fun hx => ?_, a1⟩, fun x hx => ?_⟩
      · have := (a2 _ hx).2
        simp only at this
        omega
      · rcases List.mem_cons.1 hx with rfl | hx
        · exact ⟨hs, n1⟩
        · have := a2 _ hx
          exact ⟨this.1, by omega⟩
    · rw [runs_end hl]
      simp
theorem runs_few {s : BitVec 256} {l : List Nat} (h : ∀ x, begins s x → x ∈ l) : (runs s 0).length ≤ l.length := by
  obtain ⟨h1, h2⟩ := runs_begin s 256 0 (by omega) (.inl rfl)
  have := nodup_le _ l h1 fun x hx => h x (h2 x hx).1
  simpa using this
theorem begins_lt {s : BitVec 256} {x : Nat} (h : begins s x) : x < 256 := by
  rcases Nat.lt_or_ge x 256 with h1 | h1
  · exact h1
  · have h2 := h.1
    rw [BitVec.getLsbD_of_ge _ _ h1] at h2
    exact absurd h2 (by decide)
theorem or0 (L : List (Nat × Nat)) (b : Nat) (hb : b < 256) : (orR 0 L).getLsbD b = L.any (fun q => decide (q.1 ≤ b) && decide (b ≤ q.2)) := by
  rw [orR_get b hb, show (0 : BitVec 256).getLsbD b = false from by simp, Bool.false_or]
theorem any_run {L : List (Nat × Nat)} {b : Nat} : L.any (fun q => decide (q.1 ≤ b) && decide (b ≤ q.2)) = true ↔ ∃ q ∈ L, q.1 ≤ b ∧ b ≤ q.2 := by
  simp [List.any_eq_true]
theorem or_begins (L : List (Nat × Nat)) (x : Nat) (h : begins (orR 0 L) x) : x ∈ L.map Prod.fst := by
  have hx := begins_lt h
  obtain ⟨h1, h2⟩ := h
  rw [or0 L x hx] at h1
  obtain ⟨q, hq, h3, h4⟩ := any_run.1 h1
  rcases Nat.lt_or_ge q.1 x with h5 | h5
  · rcases h2 with h2 | h2
    · omega
    · rw [or0 L (x - 1) (by omega)] at h2
      have := (any_run (L := L) (b := x - 1)).2 ⟨q, hq, by omega, by omega⟩
      rw [h2] at this
      exact absurd this (by decide)
  · exact List.mem_map.2 ⟨q, hq, by omega⟩
theorem nor_begins (L : List (Nat × Nat)) (x : Nat) (h : begins (~~~(orR 0 L)) x) : x ∈ 0 :: L.map (fun q => q.2 + 1) := by
  have hx := begins_lt h
  obtain ⟨h1, h2⟩ := h
  rw [BitVec.getLsbD_not, or0 L x hx] at h1
  simp only [hx, decide_true, Bool.true_and, Bool.not_eq_true'] at h1
  rcases h2 with h2 | h2
  · simp [h2]
  · by_cases h0 : x = 0
    · simp [h0]
    rw [BitVec.getLsbD_not, or0 L (x - 1) (by omega)] at h2
    have hx1 : x - 1 < 256 := by omega
    simp only [hx1, decide_true, Bool.true_and, Bool.not_eq_false'] at h2
    obtain ⟨q, hq, h3, h4⟩ := any_run.1 h2
    rcases Nat.lt_or_ge q.2 x with h5 | h5
    · exact List.mem_cons_of_mem _ (List.mem_map.2 ⟨q, hq, by omega⟩)
    · have := (any_run (L := L) (b := x)).2 ⟨q, hq, by omega, by omega⟩
      rw [h1] at this
      exact absurd this (by decide)
theorem or_runs (L : List (Nat × Nat)) : (runs (orR 0 L) 0).length ≤ L.length ∧ (runs (~~~(orR 0 L)) 0).length ≤ L.length + 1 := by
  have h1 := runs_few (or_begins L)
  have h2 := runs_few (nor_begins L)
  rw [List.length_map] at h1
  rw [List.length_cons, List.length_map] at h2
  exact ⟨h1, h2⟩
theorem rowsOut_len9 : ∀ (L : List (Nat × Nat)), (rowsOut L).length ≤ 9 * L.length
  | [] => by simp [rowsOut]
  | q :: L => by
    have h1 := rowsOut_len9 L
    have h2 := rangeOut_len (UInt8.ofNat q.1) (UInt8.ofNat q.2)
    have e : rowsOut (q :: L) = rangeOut (UInt8.ofNat q.1) (UInt8.ofNat q.2) ++ rowsOut L := rfl
    rw [e, List.length_append, List.length_cons]
    omega
theorem classOut_few {s : BitVec 256} {n : Nat} (h1 : (runs s 0).length ≤ n) (h2 : (runs (~~~s) 0).length ≤ n) : (classOut s).length ≤ 9 * n + 4 := by
  have a1 := rowsOut_len9 (runs s 0)
  have a2 := rowsOut_len9 (runs (~~~s) 0)
  unfold classOut
  split
  · have := byteOut_len (plainB (fst s 0)) (UInt8.ofNat (fst s 0))
    omega
  · split
    · simp
    · unfold clsOut
      split
      · simp only [List.length_append, List.length_cons, List.length_nil]
        omega
      · simp only [List.length_append, List.length_cons, List.length_nil]
        omega
theorem orR_cons (a : BitVec 256) (q : Nat × Nat) (L : List (Nat × Nat)) : orR a (q :: L) = orR (a ||| ofP (rangeP q.1 q.2)) L := rfl
theorem classR_few : ∀ (f : Nat) (l : List UInt8) (a b : BitVec 256) (k : Nat), classR f l a = .ok (b, k) → ∃ L, b = orR a L ∧ L.length + 1 ≤ k
  | 0, _, _, _, _, h => by simp [classR] at h
  | f + 1, l, a, b, k, h => by
    by_cases h1 : seesB l 93 = true
    · rw [classR_end h1] at h
      simp at h
      exact ⟨[], h.1.symm, by simp; omega⟩
    · have h1' : seesB l 93 = false := by simpa using h1
      cases he : elemR l with
      | error d => rw [classR_bad h1' he] at h; simp at h
      | ok x =>
        obtain ⟨p, n⟩ := x
        have hp := (elemR_le he).1
        rw [classR_go h1' he] at h
        obtain ⟨m, h2, rfl⟩ := shiftR_ok h
        obtain ⟨L, hL, hk⟩ := classR_few f _ _ _ _ h2
        exact ⟨p :: L, by rw [orR_cons]; exact hL, by rw [List.length_cons]; omega⟩
theorem clsR_few {l : List UInt8} {b : BitVec 256} {k : Nat} (h : clsR l = .ok (b, k)) : (classOut b).length ≤ 9 * k + 4 := by
  unfold clsR at h
  split at h
  · split at h
    · simp at h
    · rename_i a n hc
      obtain ⟨L, rfl, hk⟩ := classR_few _ _ _ _ _ hc
      simp only [Except.ok.injEq, Prod.mk.injEq] at h
      obtain ⟨rfl, rfl⟩ := h
      have := or_runs L
      exact Nat.le_trans (classOut_few (n := L.length + 1) (by omega) (by rw [bv_not_not]; omega)) (by omega)
  · obtain ⟨L, rfl, hk⟩ := classR_few _ _ _ _ _ h
    have := or_runs L
    exact classOut_few (n := k) (by omega) (by omega)
/-- A shown pattern's length. -/
def Pat.len (p : Pat) : Nat := p.shw.2.length
theorem setP_len (s : BitVec 256) : (setP s).len = (classOut s).length := rfl
theorem leafR_len {l : List UInt8} {p : Pat} {n : Nat} (h : leafR l = .ok (p, n)) : p.len + 2 ≤ 9 * n := by
  unfold leafR at h
  split at h
  · split at h
    · simp at h
    · rename_i a m hc
      simp at h
      obtain ⟨rfl, rfl⟩ := h
      have := clsR_few hc
      rw [setP_len]
      omega
  · split at h
    · simp at h
      obtain ⟨rfl, rfl⟩ := h
      rw [setP_len, dot_class]
      simp
    · split at h
      · simp at h
      · rename_i b m ho
        simp at h
        obtain ⟨rfl, rfl⟩ := h
        have h1 := oneB_len ho
        rw [setP_len]
        have h2 := sb_class b h1.2.2
        unfold sb at h2
        rw [h2]
        have := byteOut_len (plainB b) (UInt8.ofNat b)
        omega
theorem part_len (least : Int) (p : Pat) : (partOf least p.shw).length ≤ p.len + 2 := partOf_len least p.shw
theorem rep_len {lo hi : Int} (h : Nums lo hi) (k : Pat) : (Pat.mk 3 0 lo hi [k]).len ≤ k.len + 9 := by
  have hs : (Pat.mk 3 0 lo hi [k]).shw = (4, partOf 4 k.shw ++ repOut lo hi) := by
    rw [shw_self (by simp [isL, Pat.op])]
    simp [Pat.op, Pat.kids, Pat.lo, Pat.hi, levOf, textOf, Pat.shws, rowO]
  have h1 := part_len 4 k
  obtain ⟨_, h2, _, h3, _⟩ := h
  have h4 := repOut_len lo hi (by omega) (by omega)
  unfold Pat.len at h1 ⊢
  rw [hs, List.length_append]
  omega
theorem not_len (k : Pat) : (Pat.mk 5 0 0 0 [k]).len ≤ k.len + 3 := by
  have hs : (Pat.mk 5 0 0 0 [k]).shw = (3, 126 :: partOf 3 k.shw) := by
    rw [shw_self (by simp [isL, Pat.op])]
    simp [Pat.op, Pat.kids, levOf, textOf, Pat.shws, rowO]
  have h1 := part_len 3 k
  unfold Pat.len at h1 ⊢
  rw [hs, List.length_cons]
  omega
theorem notP_len (k : Pat) : ∀ n, (notP n k).len ≤ k.len + 3 * n
  | 0 => by simp [notP]
  | n + 1 => by
    have h1 := not_len (notP n k)
    have h2 := notP_len k n
    show (Pat.mk 5 0 0 0 [notP n k]).len ≤ _
    omega
theorem repLoop_len : ∀ (f : Nat) (l : List UInt8) (p q : Pat) (k : Nat), repLoop f l p = .ok (q, k) → q.len ≤ p.len + 9 * k
  | 0, _, _, _, _, h => by
    simp [repLoop] at h
    rw [h.1]
    omega
  | f + 1, l, p, q, k, h => by
    rcases hr : repR l with e | ⟨_ | ⟨x, y⟩, n⟩
    · rw [repLoop_bad hr] at h
      simp at h
    · rw [repLoop_end hr] at h
      simp at h
      rw [h.1]
      omega
    · rw [repLoop_go hr] at h
      obtain ⟨m, h1, rfl⟩ := shiftR_ok h
      have h2 := repLoop_len f _ _ _ _ h1
      have h3 := rep_len (rep_nums hr) p
      have h4 := (repR_le hr).2 rfl
      omega
theorem itemR_len {A : List UInt8 → Except Nat (Pat × Nat)} (ha : ∀ l p n, A l = .ok (p, n) → p.len + 2 ≤ 9 * n) {l : List UInt8} {p : Pat} {n : Nat} (h : itemR A l = .ok (p, n)) : p.len + 2 ≤ 9 * n := by
  unfold itemR at h
  split at h
  · simp at h
  · rename_i q k hq
    obtain ⟨u, hu, rfl⟩ := mapR_ok h
    obtain ⟨m, hm, rfl⟩ := shiftR_ok hu
    have h1 := ha _ _ _ hq
    have h2 := repLoop_len _ _ _ _ _ hm
    have h3 := notP_len u (notsN l)
    omega
def suml (c : Nat) (ps : List Pat) : Nat := (ps.map (fun p => p.len + c)).sum
theorem suml_cons (c : Nat) (p : Pat) (ps : List Pat) : suml c (p :: ps) = p.len + c + suml c ps := by simp [suml]
theorem seqLoop_len {item : List UInt8 → Except Nat (Pat × Nat)} (hi : ∀ l p n, item l = .ok (p, n) → p.len + 2 ≤ 9 * n) : ∀ (f : Nat) (l : List UInt8) (ps : List Pat) (k : Nat), seqLoop item f l = .ok (ps, k) → suml 2 ps ≤ 9 * k
  | 0, _, _, _, h => by
    simp [seqLoop] at h
    obtain ⟨rfl, rfl⟩ := h
    simp [suml]
  | f + 1, l, ps, k, h => by
    unfold seqLoop at h
    split at h
    · simp at h
      obtain ⟨rfl, rfl⟩ := h
      simp [suml]
    · split at h
      · simp at h
      · rename_i p n hp
        have h1 := hi _ _ _ hp
        split at h
        · simp at h
        · rename_i qs m hq
          have h2 := seqLoop_len hi f _ _ _ hq
          simp at h
          rw [← h.1, suml_cons]
          omega
theorem flat_len (sep : List UInt8) (least : Int) (c : Nat) (hc : sep.length + 2 ≤ c) : ∀ (ps : List Pat), (ps.flatMap (fun y => sep ++ partOf least y.shw)).length ≤ suml c ps
  | [] => by simp [suml]
  | p :: ps => by
    have h1 := flat_len sep least c hc ps
    have h2 := part_len least p
    rw [List.flatMap_cons, List.length_append, List.length_append, suml_cons]
    omega
theorem cat_len (ps : List Pat) : (joinP 1 ps).len ≤ suml 2 ps := by
  have key : ps.length ≠ 1 → (Pat.mk 1 0 0 0 ps).len ≤ suml 2 ps := by
    intro hl
    have hs : (Pat.mk 1 0 0 0 ps).shw = (2, ps.flatMap (fun y => [] ++ partOf 3 y.shw)) := by
      rw [shw_self (by simp [isL, Pat.op, Pat.kids, hl])]
      simp [Pat.op, Pat.kids, levOf, textOf, rowO_flat]
    unfold Pat.len
    rw [hs]
    exact flat_len [] 3 2 (by simp) ps
  rcases ps with _ | ⟨p, _ | ⟨q, ps⟩⟩
  · exact key (by simp)
  · show p.len ≤ _
    rw [suml_cons]
    omega
  · exact key (by simp)
theorem seqR_len {item : List UInt8 → Except Nat (Pat × Nat)} (hi : ∀ l p n, item l = .ok (p, n) → p.len + 2 ≤ 9 * n) {l : List UInt8} {p : Pat} {n : Nat} (h : seqR item l = .ok (p, n)) : p.len ≤ 9 * n := by
  obtain ⟨ps, h1, rfl⟩ := jr_ok h
  exact Nat.le_trans (cat_len ps) (seqLoop_len hi _ _ _ _ h1)
theorem rowLoop_len {part : List UInt8 → Except Nat (Pat × Nat)} {sep : Nat} (hi : ∀ l p n, part l = .ok (p, n) → p.len ≤ 9 * n) : ∀ (f : Nat) (l : List UInt8) (ps : List Pat) (k : Nat), rowLoop part sep f l = .ok (ps, k) → suml 9 ps ≤ 9 * k
  | 0, _, _, _, h => by
    simp [rowLoop] at h
    obtain ⟨rfl, rfl⟩ := h
    simp [suml]
  | f + 1, l, ps, k, h => by
    unfold rowLoop at h
    split at h
    · split at h
      · simp at h
      · rename_i p n hp
        have h1 := hi _ _ _ hp
        split at h
        · simp at h
        · rename_i qs m hq
          have h2 := rowLoop_len hi f _ _ _ hq
          simp at h
          rw [← h.1, suml_cons]
          omega
    · simp at h
      obtain ⟨rfl, rfl⟩ := h
      simp [suml]
theorem suml_add (c e : Nat) : ∀ (ps : List Pat), suml (c + e) ps = suml c ps + e * ps.length
  | [] => by simp [suml]
  | p :: ps => by
    rw [suml_cons, suml_cons, suml_add c e ps, List.length_cons, Nat.mul_add]
    omega
theorem row_len {op : Int} (ho : op = 2 ∨ op = 4) (p : Pat) (ps : List Pat) : (joinP op (p :: ps)).len ≤ p.len + suml 9 ps := by
  rcases ps with _ | ⟨q, ps⟩
  · show p.len ≤ _
    omega
  · have h9 : suml 9 (q :: ps) = suml 3 (q :: ps) + 6 * (q :: ps).length := suml_add 3 6 (q :: ps)
    have h1 := part_len 1 p
    have h2 := part_len 2 p
    have h3 := flat_len [124] 1 3 (by simp) (q :: ps)
    have h4 := flat_len [38] 2 3 (by simp) (q :: ps)
    rw [List.length_cons] at h9
    show (Pat.mk op 0 0 0 (p :: q :: ps)).len ≤ _
    rcases ho with rfl | rfl
    · have hs : (Pat.mk 2 0 0 0 (p :: q :: ps)).shw = (0, partOf 1 p.shw ++ (q :: ps).flatMap (fun y => [124] ++ partOf 1 y.shw)) := by
        rw [shw_self (by simp [isL, Pat.op, Pat.kids])]
        simp only [Pat.op, Pat.kids, Pat.set, Pat.lo, Pat.hi]
        unfold textOf
        rw [if_neg (by decide), if_neg (by decide), if_pos rfl, rowO_map]
        simp [levOf, Pat.shws]
      have e : (Pat.mk 2 0 0 0 (p :: q :: ps)).len = (partOf 1 p.shw ++ (q :: ps).flatMap (fun y : Pat => [124] ++ partOf 1 y.shw)).length := by
        unfold Pat.len
        rw [hs]
      rw [e, List.length_append]
      omega
    · have hs : (Pat.mk 4 0 0 0 (p :: q :: ps)).shw = (1, partOf 2 p.shw ++ (q :: ps).flatMap (fun y => [38] ++ partOf 2 y.shw)) := by
        rw [shw_self (by simp [isL, Pat.op, Pat.kids])]
        simp only [Pat.op, Pat.kids, Pat.set, Pat.lo, Pat.hi]
        unfold textOf
        rw [if_neg (by decide), if_neg (by decide), if_neg (by decide), if_pos rfl, rowO_map]
        simp [levOf, Pat.shws]
      have e : (Pat.mk 4 0 0 0 (p :: q :: ps)).len = (partOf 2 p.shw ++ (q :: ps).flatMap (fun y : Pat => [38] ++ partOf 2 y.shw)).length := by
        unfold Pat.len
        rw [hs]
      rw [e, List.length_append]
      omega
theorem rowR_len {part : List UInt8 → Except Nat (Pat × Nat)} {op : Int} (ho : op = 2 ∨ op = 4) {sep : Nat} (hi : ∀ l p n, part l = .ok (p, n) → p.len ≤ 9 * n) {l : List UInt8} {p : Pat} {n : Nat} (h : rowR part op sep l = .ok (p, n)) : p.len ≤ 9 * n := by
  unfold rowR at h
  split at h
  · simp at h
  · rename_i q k hq
    have h1 := hi _ _ _ hq
    split at h
    · simp at h
    · rename_i qs m hr
      have h2 := rowLoop_len hi _ _ _ _ hr
      simp at h
      obtain ⟨rfl, rfl⟩ := h
      have h3 := row_len ho q qs
      omega
theorem patR_len {A : List UInt8 → Except Nat (Pat × Nat)} (ha : ∀ l p n, A l = .ok (p, n) → p.len + 2 ≤ 9 * n) {l : List UInt8} {p : Pat} {n : Nat} (h : patR A l = .ok (p, n)) : p.len ≤ 9 * n :=
  rowR_len (.inl rfl) (fun _ _ _ h => rowR_len (.inr rfl) (fun _ _ _ h => seqR_len (fun _ _ _ h => itemR_len ha h) h) h) h
theorem atomR_len : ∀ (d : Nat) (l : List UInt8) (p : Pat) (n : Nat), atomR d l = .ok (p, n) → p.len + 2 ≤ 9 * n
  | 0, l, p, n, h => by
    unfold atomR at h
    split at h
    · simp at h
    · exact leafR_len h
  | d + 1, l, p, n, h => by
    unfold atomR at h
    split at h
    · unfold groupR at h
      split at h
      · simp at h
      · rename_i q k hq
        have h1 := patR_len (atomR_len d) hq
        split at h
        · simp at h
          obtain ⟨rfl, rfl⟩ := h
          omega
        · simp at h
    · exact leafR_len h
theorem whole_len {s : ByteArray} {p : Pat} (h : wholeR s = .ok p) : p.shw.2.length ≤ 9 * s.size := by
  unfold wholeR at h
  split at h
  · simp at h
  · rename_i q n hq
    split at h
    · rename_i hn
      split at h
      · obtain rfl : q = p := by simpa using h
        have := patR_len (atomR_len 32) hq
        unfold Pat.len at this
        omega
      · simp at h
    · simp at h
theorem fit_parts {p : Pat} {d : Nat} (h : p.fit d = true) : okN p.op p.lo p.hi p.kids.length = true ∧ fitL p.kids (d + 1) = true := by
  cases p with
  | mk op s lo hi kids =>
    simp only [Pat.fit, Bool.and_eq_true] at h
    exact h.2
theorem fitL_all : ∀ (l : List Pat) (d : Nat), fitL l d = true → ∀ k ∈ l, k.fit d = true
  | [], _, _, k, hk => by simp at hk
  | p :: ps, d, h, k, hk => by
    simp only [fitL, Bool.and_eq_true] at h
    rcases List.mem_cons.1 hk with rfl | hk
    · exact h.1
    · exact fitL_all ps d h.2 k hk
theorem fit_sm : ∀ (n : Nat) (p : Pat) (d : Nat), p.size ≤ n → p.fit d = true → p.sm = true
  | 0, p, _, h, _ => by have := size_eq p; omega
  | n + 1, p, d, hn, h => by
    obtain ⟨h1, h2⟩ := fit_parts h
    have hs := size_eq p
    have hk : ∀ k ∈ p.kids, k.sm = true := fun k hkm => by
      have hf := fitL_all _ _ h2 k hkm
      obtain ⟨i, hi, rfl⟩ := List.getElem_of_mem hkm
      have := size_kid p.kids i hi
      exact fit_sm n _ _ (by omega) hf
    cases p with
    | mk op s lo hi kids =>
      simp only [Pat.kids] at hk
      unfold okN at h1
      obtain ⟨_, _, _, _, g1, g2, g3, _⟩ := of_decide_eq_true h1
      simp only [Pat.lo, Pat.hi] at g1 g2 g3
      simp only [Pat.sm, sms_all, Bool.and_eq_true, Bool.or_eq_true, decide_eq_true_eq, List.all_eq_true]
      exact ⟨.inr (by omega), hk⟩
theorem whole_sm {s : ByteArray} {p : Pat} (h : wholeR s = .ok p) : p.sm = true := by
  unfold wholeR at h
  split at h
  · simp at h
  · split at h
    · split at h
      · rename_i hf
        obtain rfl := by simpa using h
        exact fit_sm _ _ 1 (Nat.le_refl _) hf
      · simp at h
    · simp at h
end Go.Proofs.YtkpfpegjapddfaaGreatDoor
set_option maxRecDepth 20000
namespace Go.Proofs.YtkpfpegjapddfaaGreatDoor
open Go.RowKit

set_option maxHeartbeats 4000000 in
theorem back_big (s : ByteArray) (hs : 200 < s.size) (w : World) (hL : Lay w) : Calls Tryz.prog 4 #[.string s] w fun e w' => e = .returned (.bool true) ∧ Below w.heap.size w w' := by
  have hgt : (s.size : Int) > 200 := by omega
  go_enter Tryz.func4, Tryz.ntmps4
  go_wp2_with (first
    | (go_at_call 7; (with_reducible refine (awake_any _ hL).mono ?_); rintro e w1 ⟨rfl, hb1⟩)
    | fail)
  go_ret
  exact ⟨rfl, hb1⟩
set_option maxHeartbeats 4000000 in
theorem back_bad (s : ByteArray) (hs : s.size ≤ 200) (d : Nat) (hd : wholeR s = .error d) (w : World) (hL : Lay w) : Calls Tryz.prog 4 #[.string s] w fun e w' => e = .returned (.bool true) ∧ Below w.heap.size w w' := by
  have hgt : ¬ (s.size : Int) > 200 := by omega
  have hs2 : s.size ≤ 20000 := by omega
  go_enter Tryz.func4, Tryz.ntmps4
  go_wp2_with (first
    | (go_at_call 7; (with_reducible refine (awake_any _ hL).mono ?_); rintro e w1 ⟨rfl, hb1⟩; have hL1 := hL.below hb1)
    | (go_at_call 14; (with_reducible refine (parse_bad s d hd hs2 _ hL1).mono ?_); rintro e w2 ⟨rfl, hb2⟩)
    | fail)
  go_ret
  exact ⟨rfl, below_step (below_step hb1 hb2) (below_one _ _)⟩
set_option maxHeartbeats 4000000 in
theorem back_ok (s : ByteArray) (hs : s.size ≤ 200) (p : Pat) (l : List UInt8) (hl : p.shw.2 = l) (h1 : Hid (wholeR s = .ok p)) (h2 : Hid (wholeR ⟨l.toArray⟩ = .ok p)) (hln : l.length ≤ 20000) (hsz : p.size < 99998) (hsm : p.sm = true) (w : World) (hL : Lay w) : Calls Tryz.prog 4 #[.string s] w fun e w' => e = .returned (.bool true) ∧ Below w.heap.size w w' := by
  have hgt : ¬ (s.size : Int) > 200 := by omega
  have hs2 : s.size ≤ 20000 := by omega
  have hl2 : l.length ≤ 99999999 := by omega
  have hl3 : (⟨l.toArray⟩ : ByteArray).size ≤ 20000 := by rw [toArr]; exact hln
  have hss : p.same p = true := same_self p
  have hsz2 : p.size < 99999 := by omega
  go_enter Tryz.func4, Tryz.ntmps4
  go_wp2_with (first
    | (go_at_call 7; (with_reducible refine (awake_any _ hL).mono ?_); rintro e w1 ⟨rfl, hb1⟩; have hL1 := hL.below hb1)
    | (go_at_call 14; (with_reducible refine (parse_ok s p h1.out hs2 _ hL1).mono ?_); rintro e w2 ⟨a2, c2, rfl, hk2, hb2⟩; have hL2 := (hL1.below hb2).below (below_one w2 (.cells #[.int .i64 p.op, .int .u64 (wd p.set 0), .int .u64 (wd p.set 1), .int .u64 (wd p.set 2), .int .u64 (wd p.set 3), .int .i64 p.lo, .int .i64 p.hi, .slice a2 p.kids.length c2] 28)); have hB2 := below_step (below_step hb1 hb2) (below_one w2 (.cells #[.int .i64 p.op, .int .u64 (wd p.set 0), .int .u64 (wd p.set 1), .int .u64 (wd p.set 2), .int .u64 (wd p.set 3), .int .i64 p.lo, .int .i64 p.hi, .slice a2 p.kids.length c2] 28)); have hN2 := hk2.below (below_one w2 (.cells #[.int .i64 p.op, .int .u64 (wd p.set 0), .int .u64 (wd p.set 1), .int .u64 (wd p.set 2), .int .u64 (wd p.set 3), .int .i64 p.lo, .int .i64 p.hi, .slice a2 p.kids.length c2] 28)); have hx2 := Box.new w2 #[.int .i64 p.op, .int .u64 (wd p.set 0), .int .u64 (wd p.set 1), .int .u64 (wd p.set 2), .int .u64 (wd p.set 3), .int .i64 p.lo, .int .i64 p.hi, .slice a2 p.kids.length c2] rfl; obtain ⟨d0, d1, d2, d3, d4, d5, d6, d7⟩ := hx2.cells; have hT2 := hL2.1)
    | (go_at_call 10; (with_reducible refine (show_lit p l hl _ _ _ hT2 hN2 hsz hsm hl2).mono ?_); rintro e w3 ⟨rfl, hb3⟩; have hL3 := hL2.below hb3; have hB3 := below_step hB2 hb3; have hN3 := hN2.below hb3; have hx3 := hx2.below hb3)
    | (go_at_call 14; (with_reducible refine (parse_ok ⟨l.toArray⟩ p h2.out hl3 _ hL3).mono ?_); rintro e w4 ⟨a4, c4, rfl, hk4, hb4⟩; have hL4 := (hL3.below hb4).below (below_one w4 (.cells #[.int .i64 p.op, .int .u64 (wd p.set 0), .int .u64 (wd p.set 1), .int .u64 (wd p.set 2), .int .u64 (wd p.set 3), .int .i64 p.lo, .int .i64 p.hi, .slice a4 p.kids.length c4] 28)); have hB4 := below_step (below_step hB3 hb4) (below_one w4 (.cells #[.int .i64 p.op, .int .u64 (wd p.set 0), .int .u64 (wd p.set 1), .int .u64 (wd p.set 2), .int .u64 (wd p.set 3), .int .i64 p.lo, .int .i64 p.hi, .slice a4 p.kids.length c4] 28)); have hN4 := (hN3.below hb4).below (below_one w4 (.cells #[.int .i64 p.op, .int .u64 (wd p.set 0), .int .u64 (wd p.set 1), .int .u64 (wd p.set 2), .int .u64 (wd p.set 3), .int .i64 p.lo, .int .i64 p.hi, .slice a4 p.kids.length c4] 28)); have hM4 := hk4.below (below_one w4 (.cells #[.int .i64 p.op, .int .u64 (wd p.set 0), .int .u64 (wd p.set 1), .int .u64 (wd p.set 2), .int .u64 (wd p.set 3), .int .i64 p.lo, .int .i64 p.hi, .slice a4 p.kids.length c4] 28)); have hx4 := (hx3.below hb4).alloc (.cells #[.int .i64 p.op, .int .u64 (wd p.set 0), .int .u64 (wd p.set 1), .int .u64 (wd p.set 2), .int .u64 (wd p.set 3), .int .i64 p.lo, .int .i64 p.hi, .slice a4 p.kids.length c4] 28); have hy4 := Box.new w4 #[.int .i64 p.op, .int .u64 (wd p.set 0), .int .u64 (wd p.set 1), .int .u64 (wd p.set 2), .int .u64 (wd p.set 3), .int .i64 p.lo, .int .i64 p.hi, .slice a4 p.kids.length c4] rfl; clear d0 d1 d2 d3 d4 d5 d6 d7; obtain ⟨d0, d1, d2, d3, d4, d5, d6, d7⟩ := hx4.cells; obtain ⟨e0, e1, e2, e3, e4, e5, e6, e7⟩ := hy4.cells)
    | (go_at_call 15; (with_reducible refine (same_true hss hsz2 _ _ _ _ _ hN4 hM4).mono ?_); rintro e w5 ⟨rfl, hb5⟩; have hT5 := (hL4.below hb5).1; have hB5 := below_step hB4 hb5; have hM5 := hM4.below hb5; have hy5 := hy4.below hb5; clear d0 d1 d2 d3 d4 d5 d6 d7 e0 e1 e2 e3 e4 e5 e6 e7; obtain ⟨e0, e1, e2, e3, e4, e5, e6, e7⟩ := hy5.cells)
    | (go_at_call 10; (with_reducible refine (show_lit p l hl _ _ _ hT5 hM5 hsz hsm hl2).mono ?_); rintro e w6 ⟨rfl, hb6⟩)
    | fail)

  go_ret
  exact ⟨rfl, below_step hB5 hb6⟩
theorem whole_tiny {s : ByteArray} {p : Pat} (hs : s.size ≤ 200) (h : wholeR s = .ok p) : p.size < 99998 := by
  unfold wholeR at h
  split at h
  · simp at h
  · rename_i q n hq
    split at h
    · rename_i hn
      split at h
      · obtain rfl : q = p := by simpa using h
        have := patR_sz (atomR_sz 32) hq
        omega
      · simp at h
    · simp at h
theorem back_any (s : ByteArray) (w : World) (hL : Lay w) : Calls Tryz.prog 4 #[.string s] w fun e w' => e = .returned (.bool true) ∧ Below w.heap.size w w' := by
  by_cases hs : s.size ≤ 200
  · cases h : wholeR s with
    | error d => exact back_bad s hs d h w hL
    | ok p =>
      have h2 := whole_len h
      have h3 := whole_small (by omega) h
      exact back_ok s hs p _ rfl h (whole_back h) (by omega) (whole_tiny (by omega) h) (whole_sm h) w hL
  · exact back_big s (by omega) w hL
end Go.Proofs.YtkpfpegjapddfaaGreatDoor
