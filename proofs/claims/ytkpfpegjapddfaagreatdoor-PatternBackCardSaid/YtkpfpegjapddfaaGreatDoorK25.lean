/- Texts that a proof rests on: Contract of the printer's repetition; the text of a pattern. | The text of a pattern; lemmas for the printer. | Contracts of the printer's row and rowOr. | Contracts of the printer's rowOr and show. | Contract of pattern.Show. | What is read of a set's text: the set again. | A set's text is read as the set. | What awake asks of Parse and Show. | awake answers true. | PatternClasses answers true. -/
import Derived.Test.YtkpfpegjapddfaaGreatDoorK23
import Derived.Test.YtkpfpegjapddfaaGreatDoorK24
import Derived.Test.YtkpfpegjapddfaaGreatDoorK26
set_option maxRecDepth 20000
namespace Go.Proofs.YtkpfpegjapddfaaGreatDoor
open Go.RowKit

/-- A repetition's ending. -/
def repOut (lo hi : Int) : List UInt8 := match opT lo (max hi (-1)) with
  | some b => [UInt8.ofNat b.toNat]
  | none => [123] ++ Lib.decDigits lo.toNat ++ ((if max hi (-1) ≠ lo then [44] else []) ++ ((if max hi (-1) ≠ lo ∧ max hi (-1) ≠ -1 then Lib.decDigits hi.toNat else []) ++ [125]))
theorem itoa_small (n : Int) (h0 : 0 ≤ n) (h1 : n < 100) (w : World) : Calls Tryz.prog 71 #[.int .i64 n] w fun e w' => e = .returned (.string ⟨(Lib.decDigits n.toNat).toArray⟩) ∧ w' = w := by
  have := Tryz.strconv_Itoa_small n.toNat (by omega) w
  rw [Int.toNat_of_nonneg h0] at this
  exact this
theorem decDigits_len (n : Nat) (h : n < 100) : (Lib.decDigits n).length ≤ 2 := by
  unfold Lib.decDigits
  split
  · simp
  · rw [Lib.decDigits, dif_pos (by omega)]
    simp
theorem repOut_len (lo hi : Int) (h1 : lo < 100) (h2 : hi < 100) : (repOut lo hi).length ≤ 7 := by
  have a1 := decDigits_len lo.toNat (by omega)
  have a2 := decDigits_len hi.toNat (by omega)
  unfold repOut
  split
  · simp
  · repeat' split
    all_goals simp
    all_goals omega
theorem OpsT.kept {w w' : World} {b g : Nat} (h : OpsT w g) (hk : Lib.OthersKept 5 (some b) w w') (hne : g ≠ b) : OpsT w' g := by
  obtain ⟨es, c, L, h1, h2⟩ := h
  exact ⟨es, c, L, hk g _ h1 (by simpa using hne) (by intro cs fz hh; simp at hh), h2⟩
theorem OpsT.ne {w : World} {B b g : Nat} {l : List UInt8} {m : Value} (h : OpsT w g) (hp : PrB w B b l m) : g ≠ b := by
  obtain ⟨es, c, L, h1, _⟩ := h
  obtain ⟨_, p, v, h2, _⟩ := hp
  rintro rfl
  rw [h1] at h2
  simp at h2
/-- What stays: every block but the printer's and rows of bytes; no block goes. -/
structure Kp (b : Nat) (w w' : World) : Prop where
  k : Lib.OthersKept 5 (some b) w w'
  s : w.heap.size ≤ w'.heap.size
theorem Kp.refl (b : Nat) (w : World) : Kp b w w := ⟨Lib.OthersKept.refl _ _ _, Nat.le_refl _⟩
theorem Kp.trans {b : Nat} {u v w : World} (h : Kp b u v) (k : Kp b v w) : Kp b u w := ⟨h.k.trans k.k, Nat.le_trans h.s k.s⟩
theorem Kp.undrew {b : Nat} {w w' : World} (h : Kp b w.drew w') : Kp b w w' := ⟨h.k, h.s⟩
theorem kp_of_below {b : Nat} {w w' : World} (hb : Below w.heap.size w w') : Kp b w w' := ⟨kept_of_below hb, hb.size⟩
/-- Where the printer may go on. -/
def Pr (w0 w : World) (b g : Nat) (l : List UInt8) : Prop := Below w0.heap.size w0 w ∧ PrB w w0.heap.size b l (.map (some g)) ∧ OpsT w g ∧ w0.heap.size ≤ w.heap.size
/-- What the printer's functions leave. -/
def PrPost (w0 w : World) (b g : Nat) (l : List UInt8) (e : Ending) (w' : World) : Prop := e = .returned (.tuple #[]) ∧ Pr w0 w' b g l ∧ Kp b w w'
theorem Pr.next {w0 w w' : World} {b g : Nat} {l l' : List UInt8} (h : Pr w0 w b g l) (hw : PW w w0.heap.size b l' (.map (some g)) w') : Pr w0 w' b g l' :=
  ⟨h.1.trans hw.2.1, hw.1, h.2.2.1.kept hw.2.2.1 (h.2.2.1.ne h.2.1), hw.2.2.2⟩
theorem Pr.fresh {w0 w w' : World} {b g : Nat} {l : List UInt8} (h : Pr w0 w b g l) (hb : Below w.heap.size w w') : Pr w0 w' b g l := by
  refine ⟨h.1.trans (hb.mono h.2.2.2), h.2.1.below hb, ?_, Nat.le_trans h.2.2.2 hb.size⟩
  obtain ⟨es, c, L, h1, h2⟩ := h.2.2.1
  exact ⟨es, c, L, (hb.block g (lt_of_block h1)).trans h1, h2⟩
theorem Pr.drew {w0 w : World} {b g : Nat} {l : List UInt8} (h : Pr w0 w b g l) : Pr w0 w.drew b g l := ⟨h.1.drew, h.2.1, h.2.2.1, h.2.2.2⟩
theorem pr_wb {w0 w : World} {b g : Nat} {l : List UInt8} (c : UInt8) (n : Int) (hc : n = (c.toNat : Int)) (h : Pr w0 w b g l) (hlen : l.length + 1 ≤ 99999999) :
    Calls Tryz.prog 31 #[.pointer (some ⟨b, 0, none⟩), .int .u8 n] w fun e w' => e = .returned .nilIface ∧ Pr w0 w' b g (l ++ [c]) ∧ Kp b w w' := by
  refine (wb_pr w0.heap.size b l (.map (some g)) c n hc w h.2.1 hlen h.2.2.2).mono ?_
  rintro e w' ⟨rfl, hw⟩
  exact ⟨rfl, h.next hw, ⟨hw.2.2.1, hw.2.1.size⟩⟩
theorem pr_ws {w0 w : World} {b g : Nat} {l : List UInt8} (z : ByteArray) (h : Pr w0 w b g l) (hlen : l.length + z.size ≤ 99999999) :
    Calls Tryz.prog 43 #[.pointer (some ⟨b, 0, none⟩), .string z] w fun e w' => e = .returned (.tuple #[.int .i64 z.size, .nilIface]) ∧ Pr w0 w' b g (l ++ z.data.toList) ∧ Kp b w w' := by
  refine (ws_pr w0.heap.size b l (.map (some g)) z w h.2.1 hlen h.2.2.2).mono ?_
  rintro e w' ⟨rfl, hw⟩
  exact ⟨rfl, h.next hw, ⟨hw.2.2.1, hw.2.1.size⟩⟩
theorem Pr.cells {w0 w : World} {b g : Nat} {l : List UInt8} (h : Pr w0 w b g l) : w.cell? ⟨b, 2, none⟩ = some (.map (some g)) := by
  obtain ⟨_, ⟨_, p, v, hb, _⟩, _⟩ := h
  rw [Lib.cell_of_heap hb]
  rfl
theorem opT_byte (a b : Int) : ∃ c : UInt8, (opT a b).getD 0 = (c.toNat : Int) ∧ ∀ x, opT a b = some x → UInt8.ofNat x.toNat = c := by
  unfold opT
  split
  · exact ⟨42, by decide, by rintro x h; cases h; rfl⟩
  · split
    · exact ⟨43, by decide, by rintro x h; cases h; rfl⟩
    · split
      · exact ⟨63, by decide, by rintro x h; cases h; rfl⟩
      · exact ⟨0, by decide, by rintro x h; cases h⟩
theorem cat_size (a c : List UInt8) : ((⟨a.toArray⟩ : ByteArray) ++ ⟨c.toArray⟩).size = a.length + c.length := by
  rw [ByteArray.size_append]
  rfl
theorem cat_data (a c : List UInt8) : ((⟨a.toArray⟩ : ByteArray) ++ ⟨c.toArray⟩).data.toList = a ++ c := by
  rw [ByteArray.data_append]
  simp
set_option maxHeartbeats 2000000 in
theorem prep_any (lo hi : Int) (h0 : 0 ≤ lo) (h1 : lo < 100) (h2 : hi < 100) (w0 w : World) (b g : Nat) (l : List UInt8) (h : Pr w0 w b g l) (hlen : l.length + (repOut lo hi).length ≤ 99999999) :
    Calls Tryz.prog 46 #[.pointer (some ⟨b, 0, none⟩), .int .i64 lo, .int .i64 hi] w fun e w' => PrPost w0 w b g (l ++ repOut lo hi) e w' := by
  have hc2 := h.cells
  obtain ⟨hM, hMM⟩ : ∃ z, max hi (-1) = z := ⟨_, rfl⟩
  have hlk := look_times h.2.2.1 lo hM
  cases ho : opT lo hM with
  | some x =>
    obtain ⟨c, hc, hcx⟩ := opT_byte lo hM
    rw [ho] at hlk hc
    have hout : repOut lo hi = [c] := by unfold repOut; rw [hMM, ho]; simp only; rw [hcx x ho]
    simp only [Option.getD_some] at hc
    rw [hout] at hlen ⊢
    simp at hlen
    clear hcx hout ho
    subst hc
    go_enter Tryz.func46, Tryz.ntmps46
    go_wp2_with (first | (go_at_call 31; (with_reducible refine (pr_wb c (c.toNat : Int) rfl h (by first | omega | (simp; omega))).mono ?_); rintro e w2 ⟨rfl, h2', k2⟩))
    first | go_end0 | refine bodyPost_ret (results_none rfl _ _ _) rfl ?_
    exact ⟨rfl, h2', k2⟩
  | none =>
    rw [ho] at hlk
    have hm1 : -1 ≤ hM := by omega
    have hd := h.drew
    have al := decDigits_len lo.toNat (by omega)
    by_cases q : hM = lo
    · have q1 : (hM == lo) = true := by rw [q]; simp
      have q2 : (hM != lo) = false := by rw [q]; simp
      have hout : repOut lo hi = [123] ++ Lib.decDigits lo.toNat ++ [125] := by unfold repOut; rw [hMM, ho]; simp [q]
      rw [hout] at hlen ⊢
      simp at hlen
      clear q
      go_enter Tryz.func46, Tryz.ntmps46
      go_wp2_with fail
      go_region_with (first
        | (go_at_call 71; (with_reducible refine (itoa_small lo h0 h1 _).mono ?_); rintro e w1 ⟨rfl, rfl⟩)
        | (go_at_call 43; refine (pr_ws _ hd (by rw [cat_size [123]]; simp only [List.length_cons, List.length_nil]; omega)).mono ?_; rintro e w3 ⟨rfl, h3, k3⟩; rw [cat_data [123]] at h3))
      all_goals
        go_wp2_with (first | (go_at_call 31; (with_reducible refine (pr_wb 125 125 (by decide) h3 (by simp; omega)).mono ?_); rintro e w4 ⟨rfl, h4, k4⟩))
        first | go_end0 | refine bodyPost_ret (results_none rfl _ _ _) rfl ?_
        exact ⟨rfl, by simpa [List.append_assoc] using h4, k3.undrew.trans k4⟩
    · have q1 : (hM == lo) = false := by rw [beq_eq_false_iff_ne]; exact q
      have q2 : (hM != lo) = true := by simp [bne, q1]
      by_cases r : hM = -1
      · have r1 : (hM == -1) = true := by rw [r]; rfl
        have r2 : (hM != -1) = false := by simp [bne, r1]
        have hout : repOut lo hi = [123] ++ Lib.decDigits lo.toNat ++ [44] ++ [125] := by unfold repOut; rw [hMM, ho]; simp only; rw [if_pos q, if_neg (by rintro ⟨_, h⟩; exact h r)]; simp
        rw [hout] at hlen ⊢
        simp at hlen
        clear q r
        go_enter Tryz.func46, Tryz.ntmps46
        go_wp2_with fail
        go_region_with (first
          | (go_at_call 71; (with_reducible refine (itoa_small lo h0 h1 _).mono ?_); rintro e w1 ⟨rfl, rfl⟩)
          | (go_at_call 43; refine (pr_ws _ hd (by rw [cat_size [123]]; simp only [List.length_cons, List.length_nil]; omega)).mono ?_; rintro e w3 ⟨rfl, h3, k3⟩; rw [cat_data [123]] at h3))
        all_goals
          go_wp2_with (first | (go_at_call 31; (with_reducible refine (pr_wb 44 44 (by decide) h3 (by simp; omega)).mono ?_); rintro e w4 ⟨rfl, h4, k4⟩) | (go_at_call 31; (with_reducible refine (pr_wb 125 125 (by decide) h4 (by simp; omega)).mono ?_); rintro e w5 ⟨rfl, h5, k5⟩))
          first | go_end0 | refine bodyPost_ret (results_none rfl _ _ _) rfl ?_
          exact ⟨rfl, by simpa [List.append_assoc] using h5, (k3.undrew.trans k4).trans k5⟩
      · have r1 : (hM == -1) = false := by rw [beq_eq_false_iff_ne]; exact r
        have r2 : (hM != -1) = true := by simp [bne, r1]
        have hmh : hM = hi := by omega
        have al2 := decDigits_len hM.toNat (by omega)
        have hout : repOut lo hi = [123] ++ Lib.decDigits lo.toNat ++ [44] ++ Lib.decDigits hM.toNat ++ [125] := by unfold repOut; rw [hMM, ho]; simp only; rw [if_pos q, if_pos ⟨q, r⟩, hmh]; simp
        rw [hout] at hlen ⊢
        simp at hlen
        have hb100 : hM < 100 := by omega
        have hb0 : 0 ≤ hM := by omega
        clear q r hmh
        go_enter Tryz.func46, Tryz.ntmps46
        go_wp2_with fail
        go_region_with (first
          | (go_at_call 71; (with_reducible refine (itoa_small lo h0 h1 _).mono ?_); rintro e w1 ⟨rfl, rfl⟩)
          | (go_at_call 43; refine (pr_ws _ hd (by rw [cat_size [123]]; simp only [List.length_cons, List.length_nil]; omega)).mono ?_; rintro e w3 ⟨rfl, h3, k3⟩; rw [cat_data [123]] at h3))
        all_goals
          go_wp2_with (first | (go_at_call 31; (with_reducible refine (pr_wb 44 44 (by decide) h3 (by simp; omega)).mono ?_); rintro e w4 ⟨rfl, h4, k4⟩))
          have hd4 := h4.drew
          go_region_with (first
            | (go_at_call 71; (with_reducible refine (itoa_small hM hb0 hb100 _).mono ?_); rintro e w5 ⟨rfl, rfl⟩)
            | (go_at_call 43; refine (pr_ws _ hd4 (by show _ + (Lib.decDigits hM.toNat).length ≤ _; simp; omega)).mono ?_; rintro e w6 ⟨rfl, h6, k6⟩))
          all_goals
            go_wp2_with (first | (go_at_call 31; (with_reducible refine (pr_wb 125 125 (by decide) h6 (by simp; omega)).mono ?_); rintro e w7 ⟨rfl, h7, k7⟩))
            first | go_end0 | refine bodyPost_ret (results_none rfl _ _ _) rfl ?_
            exact ⟨rfl, by simpa [List.append_assoc] using h7, ((k3.undrew.trans k4).trans k6.undrew).trans k7⟩
end Go.Proofs.YtkpfpegjapddfaaGreatDoor
set_option maxRecDepth 20000
namespace Go.Proofs.YtkpfpegjapddfaaGreatDoor
open Go.RowKit

/-- A part, in brackets where it must. -/
def partOf (least : Int) (x : Int × List UInt8) : List UInt8 := if x.1 < least then [40] ++ x.2 ++ [41] else x.2
/-- Parts with a separator between them. -/
def rowO (sep : List UInt8) (least : Int) : List (Int × List UInt8) → List UInt8
  | [] => []
  | x :: l => partOf least x ++ l.flatMap (fun y => sep ++ partOf least y)
/-- The text of a kind over its kids' texts. -/
def textOf (op : Int) (s : BitVec 256) (lo hi : Int) (l : List (Int × List UInt8)) : List UInt8 :=
  if op = 0 then classOut s
  else if op = 1 then rowO [] 3 l
  else if op = 2 then (if l.length = 0 then [91, 93] else []) ++ rowO [124] 1 l
  else if op = 4 then (if l.length = 0 then [91, 94, 93, 42] else []) ++ rowO [38] 2 l
  else if op = 5 then [126] ++ rowO [] 3 l
  else if op = 3 then rowO [] 4 l ++ repOut lo hi
  else []
mutual
/-- A pattern's level and text. -/
def Pat.shw : Pat → Int × List UInt8
  | .mk op s lo hi kids => if isL op = true ∧ kids.length = 1 then (Pat.shws kids).headD (0, []) else (levOf op kids.length, textOf op s lo hi (Pat.shws kids))
def Pat.shws : List Pat → List (Int × List UInt8)
  | [] => []
  | p :: ps => p.shw :: Pat.shws ps
end
mutual
/-- The numbers of every repetition are small. -/
def Pat.sm : Pat → Bool
  | .mk op _ lo hi kids => (op != 3 || (decide (0 ≤ lo) && decide (lo < 100) && decide (hi < 100))) && Pat.sms kids
def Pat.sms : List Pat → Bool
  | [] => true
  | p :: ps => p.sm && Pat.sms ps
end
theorem shws_map : ∀ (l : List Pat), Pat.shws l = l.map Pat.shw
  | [] => rfl
  | p :: ps => by rw [Pat.shws, List.map_cons, shws_map ps]
theorem sms_all : ∀ (l : List Pat), Pat.sms l = l.all Pat.sm
  | [] => rfl
  | p :: ps => by rw [Pat.sms, List.all_cons, sms_all ps]
theorem shw_self {p : Pat} (h : ¬(isL p.op = true ∧ p.kids.length = 1)) : p.shw = (levOf p.op p.kids.length, textOf p.op p.set p.lo p.hi (Pat.shws p.kids)) := by
  cases p with
  | mk op s lo hi kids =>
    simp only [Pat.kids, Pat.op] at h
    rw [Pat.shw, if_neg h]
    rfl
theorem shw_one {p k : Pat} (h : isL p.op = true) (hk : p.kids = [k]) : p.shw = k.shw := by
  cases p with
  | mk op s lo hi kids =>
    simp only [Pat.kids] at hk
    simp only [Pat.op] at h
    subst hk
    simp [Pat.shw, Pat.shws, h]
theorem shw_inn : ∀ (n : Nat) (p : Pat), p.size ≤ n → p.inn.shw = p.shw
  | 0, p, h => by have := size_eq p; omega
  | n + 1, p, h => by
    by_cases hl : isL p.op = true ∧ p.kids.length = 1
    · obtain ⟨k, hk⟩ := List.length_eq_one_iff.1 hl.2
      rw [inn_one hl.1 hk, shw_one hl.1 hk]
      have hs := size_eq p
      rw [hk] at hs
      simp only [Pat.sizes] at hs
      exact shw_inn n k (by omega)
    · rw [inn_self hl]
theorem sm_parts {p : Pat} (h : p.sm = true) : (p.op = 3 → 0 ≤ p.lo ∧ p.lo < 100 ∧ p.hi < 100) ∧ ∀ k ∈ p.kids, k.sm = true := by
  cases p with
  | mk op s lo hi kids =>
    simp only [Pat.sm, Bool.and_eq_true, Bool.or_eq_true, decide_eq_true_eq, sms_all, List.all_eq_true] at h
    refine ⟨fun ho => ?_, h.2⟩
    simp only [Pat.op] at ho
    rcases h.1 with h1 | h1
    · simp [ho] at h1
    · exact ⟨h1.1.1, h1.1.2, h1.2⟩
theorem sm_inn : ∀ (n : Nat) (p : Pat), p.size ≤ n → p.sm = true → p.inn.sm = true
  | 0, p, h, _ => by have := size_eq p; omega
  | n + 1, p, h, hm => by
    by_cases hl : isL p.op = true ∧ p.kids.length = 1
    · obtain ⟨k, hk⟩ := List.length_eq_one_iff.1 hl.2
      rw [inn_one hl.1 hk]
      have hs := size_eq p
      rw [hk] at hs
      simp only [Pat.sizes] at hs
      exact sm_inn n k (by omega) ((sm_parts hm).2 k (by rw [hk]; simp))
    · rw [inn_self hl]
      exact hm
theorem rowO_take (sep : List UInt8) (least : Int) : ∀ (l : List (Int × List UInt8)) (k : Nat) (h : k < l.length), rowO sep least (l.take (k + 1)) = rowO sep least (l.take k) ++ ((if k = 0 then [] else sep) ++ partOf least l[k])
  | [], k, h => by simp at h
  | x :: l, 0, _ => by simp [rowO]
  | x :: l, k + 1, h => by
    have h2 : k < l.length := by simpa using h
    simp only [List.take_succ_cons, rowO, List.getElem_cons_succ]
    rw [List.take_succ_eq_append_getElem h2, List.flatMap_append]
    simp
theorem Box.kept {w w' : World} {n b : Nat} {c : Array Value} (h : Box w n c) (hk : Kp b w w') (hne : n ≠ b) : Box w' n c :=
  hk.k n _ h (by simpa using hne) (by intro cs fz hh; simp at hh)
theorem Pr.notBox {w0 w : World} {b g n : Nat} {l : List UInt8} {c : Array Value} (h : Pr w0 w b g l) (hx : Box w n c) : n ≠ b := by
  obtain ⟨_, ⟨_, p, v, hb, _⟩, _⟩ := h
  rintro rfl
  unfold Box at hx
  rw [hx] at hb
  simp at hb
theorem Pr.set8 {w0 w : World} {b g n : Nat} {l : List UInt8} {c : Array Value} (h : Pr w0 w b g l) (hx : Box w n c) (hn : w0.heap.size ≤ n) (u0 u1 u2 u3 u4 u5 u6 u7 : Value) :
    Pr w0 ((((((((w.setCell ⟨n, 0, none⟩ u0).setCell ⟨n, 1, none⟩ u1).setCell ⟨n, 2, none⟩ u2).setCell ⟨n, 3, none⟩ u3).setCell ⟨n, 4, none⟩ u4).setCell ⟨n, 5, none⟩ u5).setCell ⟨n, 6, none⟩ u6).setCell ⟨n, 7, none⟩ u7) b g l := by
  have hne := h.notBox hx
  unfold Box at hx
  obtain ⟨h1, ⟨hB, p, v, hb, hp, hown⟩, ⟨es, cl, L, hg, hT⟩, h4⟩ := h
  have hbl := below_set8 h1 hn u0 u1 u2 u3 u4 u5 u6 u7
  refine ⟨hbl, ⟨hB, p, v, (heap_set8 (fun e => hne e.symm) _ _ _ _ _ _ _ _).trans hb, hp, hown.1, ?_⟩, ⟨es, cl, L, (heap_set8 ?_ _ _ _ _ _ _ _ _).trans hg, hT⟩, hbl.size⟩
  · rcases hown.2 with hn2 | ⟨gb, cap, cur, fz, hv, hg1, hgb, rest⟩
    · exact .inl hn2
    · refine .inr ⟨gb, cap, cur, fz, hv, hg1, (heap_set8 ?_ _ _ _ _ _ _ _ _).trans hgb, rest⟩
      rintro rfl
      rw [hx] at hgb
      simp at hgb
  · rintro rfl
    rw [hx] at hg
    simp at hg
theorem kept_set8 {b : Nat} {w w4 : World} {n : Nat} (h : Kp b w w4) (hn : w.heap.size ≤ n) (u0 u1 u2 u3 u4 u5 u6 u7 : Value) :
    Kp b w ((((((((w4.setCell ⟨n, 0, none⟩ u0).setCell ⟨n, 1, none⟩ u1).setCell ⟨n, 2, none⟩ u2).setCell ⟨n, 3, none⟩ u3).setCell ⟨n, 4, none⟩ u4).setCell ⟨n, 5, none⟩ u5).setCell ⟨n, 6, none⟩ u6).setCell ⟨n, 7, none⟩ u7) := by
  refine ⟨?_, Nat.le_trans h.s (below_set8 (Below.refl 0 w4) (Nat.zero_le n) u0 u1 u2 u3 u4 u5 u6 u7).size⟩
  intro k o hk hb1 ho
  have hlt := lt_of_block hk
  exact (heap_set8 (by omega) _ _ _ _ _ _ _ _).trans (h.k k o hk hb1 ho)
/-- The printer shows p. -/
def ShowAt (w0 : World) (b g : Nat) (p : Pat) : Prop := ∀ (a : Option Addr) (c : Nat) (w : World) (l : List UInt8), Kids w0 p.kids (.slice a p.kids.length c) → Pr w0 w b g l → l.length + p.shw.2.length ≤ 99999999 →
  Calls Tryz.prog 21 #[.pointer (some ⟨b, 0, none⟩), (.agg #[.int .i64 p.op, .int .u64 (wd p.set 0), .int .u64 (wd p.set 1), .int .u64 (wd p.set 2), .int .u64 (wd p.set 3), .int .i64 p.lo, .int .i64 p.hi, .slice a p.kids.length c])] w fun e w' => PrPost w0 w b g (l ++ p.shw.2) e w'
set_option maxHeartbeats 1000000 in
theorem group_pr (w0 : World) (b g : Nat) (p : Pat) (hp : ShowAt w0 b g p) (a : Option Addr) (c : Nat) (w : World) (l : List UInt8) (hk : Kids w0 p.kids (.slice a p.kids.length c)) (h : Pr w0 w b g l) (hlen : l.length + p.shw.2.length + 2 ≤ 99999999) :
    Calls Tryz.prog 70 #[.pointer (some ⟨b, 0, none⟩), (.agg #[.int .i64 p.op, .int .u64 (wd p.set 0), .int .u64 (wd p.set 1), .int .u64 (wd p.set 2), .int .u64 (wd p.set 3), .int .i64 p.lo, .int .i64 p.hi, .slice a p.kids.length c])] w fun e w' => PrPost w0 w b g (l ++ ([40] ++ p.shw.2 ++ [41])) e w' := by
  have hx0 := Box.new w #[.int .i64 p.op, .int .u64 (wd p.set 0), .int .u64 (wd p.set 1), .int .u64 (wd p.set 2), .int .u64 (wd p.set 3), .int .i64 p.lo, .int .i64 p.hi, .slice a p.kids.length c] rfl
  have b0 : Below w.heap.size w (w.alloc (.cells #[.int .i64 p.op, .int .u64 (wd p.set 0), .int .u64 (wd p.set 1), .int .u64 (wd p.set 2), .int .u64 (wd p.set 3), .int .i64 p.lo, .int .i64 p.hi, .slice a p.kids.length c] 28)) := (Below.refl _ _).alloc (Nat.le_refl _) _
  have h0 := h.fresh b0
  have k0 : Kp b w (w.alloc (.cells #[.int .i64 p.op, .int .u64 (wd p.set 0), .int .u64 (wd p.set 1), .int .u64 (wd p.set 2), .int .u64 (wd p.set 3), .int .i64 p.lo, .int .i64 p.hi, .slice a p.kids.length c] 28)) := kp_of_below b0
  have hne := h0.notBox hx0
  unfold ShowAt at hp
  go_enter Tryz.func70, Tryz.ntmps70
  go_wp2_with (first
    | (go_at_call 31; (with_reducible refine (pr_wb 40 40 (by decide) h0 (by omega)).mono ?_); rintro e w1 ⟨rfl, h1, k1⟩; obtain ⟨c0, c1, c2, c3, c4, c5, c6, c7⟩ := (hx0.kept k1 hne).cells)
    | (go_at_call 21; (with_reducible refine (hp a c _ _ hk h1 (by simp; omega)).mono ?_); rintro e w2 ⟨rfl, h2, k2⟩)
    | (go_at_call 31; (with_reducible refine (pr_wb 41 41 (by decide) h2 (by simp; omega)).mono ?_); rintro e w3 ⟨rfl, h3, k3⟩))
  first | go_end0 | refine bodyPost_ret (results_none rfl _ _ _) rfl ?_
  exact ⟨rfl, by simpa [List.append_assoc] using h3, ((k0.trans k1).trans k2).trans k3⟩
end Go.Proofs.YtkpfpegjapddfaaGreatDoor
set_option maxRecDepth 20000
namespace Go.Proofs.YtkpfpegjapddfaaGreatDoor
open Go.RowKit

theorem str_len (z : ByteArray) : z.data.toList.length = z.size := by
  rw [Array.length_toList]
  rfl
theorem rowO_le (sep : List UInt8) (least : Int) (l : List (Int × List UInt8)) (k : Nat) : (rowO sep least (l.take k)).length ≤ (rowO sep least l).length := by
  cases l with
  | nil => simp [rowO]
  | cons x l =>
    cases k with
    | zero => simp [rowO]
    | succ k =>
      simp only [List.take_succ_cons, rowO, List.length_append]
      have : (l.take k).flatMap (fun y => sep ++ partOf least y) <+: l.flatMap (fun y => sep ++ partOf least y) := by
        refine ⟨(l.drop k).flatMap (fun y => sep ++ partOf least y), ?_⟩
        rw [← List.flatMap_append, List.take_append_drop]
      have := this.length_le
      omega
theorem cell_at {w0 w : World} {a : Addr} {v : Value} (hb : Below w0.heap.size w0 w) (h : w0.cell? a = some v) : w.cell? a = some v := cell_below hb h
theorem level_lit (p : Pat) (a : Option Addr) (c : Nat) (v : Int) (hv : levOf p.op p.kids.length = v) (w : World) :
    Calls Tryz.prog 69 #[(.agg #[.int .i64 p.op, .int .u64 (wd p.set 0), .int .u64 (wd p.set 1), .int .u64 (wd p.set 2), .int .u64 (wd p.set 3), .int .i64 p.lo, .int .i64 p.hi, .slice a p.kids.length c])] w fun e w' => e = .returned (.int .i64 v) ∧ Below w.heap.size w w' := by
  subst hv
  exact level_any p a c w
theorem kidAt {w0 : World} {kids : List Pat} {a : Option Addr} {c : Nat} (h : Kids w0 kids (.slice a kids.length c)) (k : Nat) (hk : k < kids.length) :
    ∃ b o, a = some ⟨b, o, none⟩ ∧ NodeAt w0 kids[k] b (o + k * 8) := by
  obtain ⟨b, o, cap, e, hr⟩ := h.row (by omega)
  simp only [Value.slice.injEq] at e
  exact ⟨b, o, e.1, hr.at k hk⟩
set_option maxHeartbeats 4000000 in
theorem row_pr (w0 : World) (b g : Nat) (kids : List Pat) (hS : ∀ k ∈ kids, ShowAt w0 b g k.inn) (z : ByteArray) (least : Int) (a : Option Addr) (c : Nat) (w : World) (l : List UInt8) (hk : Kids w0 kids (.slice a kids.length c)) (h : Pr w0 w b g l)
    (hlen : l.length + (rowO z.data.toList least (Pat.shws kids)).length ≤ 99999999) (hkn : kids.length < 99999) :
    Calls Tryz.prog 44 #[.pointer (some ⟨b, 0, none⟩), .slice a kids.length c, .string z, .int .i64 least] w fun e w' => PrPost w0 w b g (l ++ rowO z.data.toList least (Pat.shws kids)) e w' := by
  have hsl : (Pat.shws kids).length = kids.length := by rw [shws_map, List.length_map]
  have hH := h.2.2.2
  go_enter Tryz.func44, Tryz.ntmps44
  go_wp2_with fail
  go_loopw [12] (fun i wr => ∃ k : Nat, k ≤ kids.length ∧ i = .int .i64 k ∧ Pr w0 wr b g (l ++ rowO z.data.toList least ((Pat.shws kids).take k)) ∧ Kp b w wr) (fun i _ => kids.length - (intOf i).toNat)
  case atStart => exact ⟨0, by omega, rfl, by simpa [rowO] using h, Kp.refl _ _⟩
  case round =>
    obtain ⟨k, hkl, rfl, hp, hkept⟩ := hrel
    have hsz := hkept.s
    by_cases hlt : k < kids.length
    · obtain ⟨b', o', rfl, hnode⟩ := kidAt hk k hlt
      obtain ⟨ks2, hk2, k0, k1, k2, k3, k4, k5, k6, k7⟩ := hnode.load
      obtain ⟨a2, c2, rfl⟩ := hk2.len
      have k0 := cell_at hp.1 k0; have k1 := cell_at hp.1 k1; have k2 := cell_at hp.1 k2; have k3 := cell_at hp.1 k3; have k4 := cell_at hp.1 k4; have k5 := cell_at hp.1 k5; have k6 := cell_at hp.1 k6; have k7 := cell_at hp.1 k7
      have hq := hS kids[k] (List.getElem_mem hlt)
      have hsk : (Pat.shws kids)[k]'(by omega) = kids[k].inn.shw := by
        simp only [shws_map, List.getElem_map]
        exact (shw_inn _ _ (Nat.le_refl _)).symm
      have hT := rowO_take z.data.toList least (Pat.shws kids) k (by omega)
      rw [hsk] at hT
      have hL := rowO_le z.data.toList least (Pat.shws kids) (k + 1)
      have hlev : kids[k].inn.shw.1 = levOf kids[k].inn.op kids[k].inn.kids.length := by
        rw [shw_self (inn_size _ kids[k] (Nat.le_refl _)).2]
      have hzl := str_len z
      generalize kids[k] = q at *
      have HL := Lib.hid hL
      have HT := Lib.hid hT
      clear hL hT hsk hnode
      have hb1 : Below wr.heap.size wr (wr.alloc (.cells #[.int .i64 q.op, .int .u64 (wd q.set 0), .int .u64 (wd q.set 1), .int .u64 (wd q.set 2), .int .u64 (wd q.set 3), .int .i64 q.lo, .int .i64 q.hi, .slice a2 q.kids.length c2] 28)) := (Below.refl _ _).alloc (Nat.le_refl _) _
      have hx1 := Box.new wr #[.int .i64 q.op, .int .u64 (wd q.set 0), .int .u64 (wd q.set 1), .int .u64 (wd q.set 2), .int .u64 (wd q.set 3), .int .i64 q.lo, .int .i64 q.hi, .slice a2 q.kids.length c2] rfl
      have hp1 := hp.fresh hb1
      have hne := hp1.notBox hx1
      have hn0 := hp.2.2.2
      have hS' := hq
      unfold ShowAt at hq
      obtain ⟨lv, hV⟩ : ∃ z, levOf q.inn.op q.inn.kids.length = z := ⟨_, rfl⟩
      rw [hV] at hlev
      have HV := Lib.hid hV
      clear hV
      rcases Nat.lt_or_ge 0 k with h0 | h0
      rotate_left
      · have hT := HT.out
        rw [if_pos (by omega)] at hT
        by_cases hlv : lv < least
        · have hpo : partOf least q.inn.shw = [40] ++ q.inn.shw.2 ++ [41] := by unfold partOf; rw [hlev, if_pos hlv]
          have hdl : decide (lv < least) = true := decide_eq_true hlv
          rw [hpo] at hT
          have hL := HL.out
          rw [hT] at hL
          simp at hL
          have HT2 := Lib.hid hT
          clear hT hpo hlev hlv
          have hp2 := hp1
          have hb2' := hp2.1
          have hx2 := hx1
          obtain ⟨c0, c1, c3', c4, c5, c6, c7, c8⟩ := hx2.cells
          go_wp2_with (first
            | (go_at_call 42; (with_reducible refine (inner_any q _ w0 _ hk2 hb2').mono ?_); rintro e w3 ⟨a3, c3, rfl, hk3, hb3⟩; have hx3 := hx2.below hb3; obtain ⟨d0, d1, d2, d3, d4, d5, d6, d7⟩ := hx3.cells; obtain ⟨f0, f1, f2, f3, f4, f5, f6, f7⟩ := hx3.frees; have hp3 := hp2.fresh hb3; have hp4 := hp3.set8 hx3 hn0 (.int .i64 q.inn.op) (.int .u64 (wd q.inn.set 0)) (.int .u64 (wd q.inn.set 1)) (.int .u64 (wd q.inn.set 2)) (.int .u64 (wd q.inn.set 3)) (.int .i64 q.inn.lo) (.int .i64 q.inn.hi) (.slice a3 q.inn.kids.length c3); have hx4 := hx3.store (.int .i64 q.inn.op) (.int .u64 (wd q.inn.set 0)) (.int .u64 (wd q.inn.set 1)) (.int .u64 (wd q.inn.set 2)) (.int .u64 (wd q.inn.set 3)) (.int .i64 q.inn.lo) (.int .i64 q.inn.hi) (.slice a3 q.inn.kids.length c3); obtain ⟨e0, e1, e2, e3, e4, e5, e6, e7⟩ := hx4.cells)
            | (go_at_call 69; (with_reducible refine (level_lit q.inn _ _ lv HV.out _).mono ?_); rintro e w5 ⟨rfl, hb5⟩; have hx5 := hx4.below hb5; obtain ⟨g0, g1, g2, g3, g4, g5, g6, g7⟩ := hx5.cells; have hp5 := hp4.fresh hb5)
            | (go_at_call 70; (with_reducible refine (group_pr w0 b g q.inn hS' _ _ _ _ hk3 hp5 (by simp; omega)).mono ?_); rintro e w6 ⟨rfl, hp6, kk6⟩))
          go_roundw
          case rel =>
            refine ⟨k + 1, by omega, num_succ k, ?_, (((kept_set8 (((hkept.trans (kp_of_below hb1))).trans (kp_of_below hb3)) hsz (.int .i64 q.inn.op) (.int .u64 (wd q.inn.set 0)) (.int .u64 (wd q.inn.set 1)) (.int .u64 (wd q.inn.set 2)) (.int .u64 (wd q.inn.set 3)) (.int .i64 q.inn.lo) (.int .i64 q.inn.hi) (.slice a3 q.inn.kids.length c3)).trans (kp_of_below hb5)).trans kk6)⟩
            rw [HT2.out]
            simpa [List.append_assoc] using hp6
          case measure => simp [intOf]; omega
        · have hpo : partOf least q.inn.shw = q.inn.shw.2 := by unfold partOf; rw [hlev, if_neg hlv]
          have hdl : decide (lv < least) = false := decide_eq_false hlv
          rw [hpo] at hT
          have hL := HL.out
          rw [hT] at hL
          simp at hL
          have HT2 := Lib.hid hT
          clear hT hpo hlev hlv
          have hp2 := hp1
          have hb2' := hp2.1
          have hx2 := hx1
          obtain ⟨c0, c1, c3', c4, c5, c6, c7, c8⟩ := hx2.cells
          go_wp2_with (first
            | (go_at_call 42; (with_reducible refine (inner_any q _ w0 _ hk2 hb2').mono ?_); rintro e w3 ⟨a3, c3, rfl, hk3, hb3⟩; have hx3 := hx2.below hb3; obtain ⟨d0, d1, d2, d3, d4, d5, d6, d7⟩ := hx3.cells; obtain ⟨f0, f1, f2, f3, f4, f5, f6, f7⟩ := hx3.frees; have hp3 := hp2.fresh hb3; have hp4 := hp3.set8 hx3 hn0 (.int .i64 q.inn.op) (.int .u64 (wd q.inn.set 0)) (.int .u64 (wd q.inn.set 1)) (.int .u64 (wd q.inn.set 2)) (.int .u64 (wd q.inn.set 3)) (.int .i64 q.inn.lo) (.int .i64 q.inn.hi) (.slice a3 q.inn.kids.length c3); have hx4 := hx3.store (.int .i64 q.inn.op) (.int .u64 (wd q.inn.set 0)) (.int .u64 (wd q.inn.set 1)) (.int .u64 (wd q.inn.set 2)) (.int .u64 (wd q.inn.set 3)) (.int .i64 q.inn.lo) (.int .i64 q.inn.hi) (.slice a3 q.inn.kids.length c3); obtain ⟨e0, e1, e2, e3, e4, e5, e6, e7⟩ := hx4.cells)
            | (go_at_call 69; (with_reducible refine (level_lit q.inn _ _ lv HV.out _).mono ?_); rintro e w5 ⟨rfl, hb5⟩; have hx5 := hx4.below hb5; obtain ⟨g0, g1, g2, g3, g4, g5, g6, g7⟩ := hx5.cells; have hp5 := hp4.fresh hb5)
            | (go_at_call 21; (with_reducible refine (hq _ _ _ _ hk3 hp5 (by simp; omega)).mono ?_); rintro e w6 ⟨rfl, hp6, kk6⟩))
          go_roundw
          case rel =>
            refine ⟨k + 1, by omega, num_succ k, ?_, (((kept_set8 (((hkept.trans (kp_of_below hb1))).trans (kp_of_below hb3)) hsz (.int .i64 q.inn.op) (.int .u64 (wd q.inn.set 0)) (.int .u64 (wd q.inn.set 1)) (.int .u64 (wd q.inn.set 2)) (.int .u64 (wd q.inn.set 3)) (.int .i64 q.inn.lo) (.int .i64 q.inn.hi) (.slice a3 q.inn.kids.length c3)).trans (kp_of_below hb5)).trans kk6)⟩
            rw [HT2.out]
            simpa [List.append_assoc] using hp6
          case measure => simp [intOf]; omega
      · have hT := HT.out
        rw [if_neg (by omega)] at hT
        by_cases hlv : lv < least
        · have hpo : partOf least q.inn.shw = [40] ++ q.inn.shw.2 ++ [41] := by unfold partOf; rw [hlev, if_pos hlv]
          have hdl : decide (lv < least) = true := decide_eq_true hlv
          rw [hpo] at hT
          have hL := HL.out
          rw [hT] at hL
          simp at hL
          have HT2 := Lib.hid hT
          clear hT hpo hlev hlv
          go_wp2_with (first
            | (go_at_call 43; (with_reducible refine (pr_ws z hp1 (by simp; omega)).mono ?_); rintro e w2 ⟨rfl, hp2, kk2⟩; have hb2' := hp2.1; have hx2 := hx1.kept kk2 hne; obtain ⟨c0, c1, c3', c4, c5, c6, c7, c8⟩ := hx2.cells)
            | (go_at_call 42; (with_reducible refine (inner_any q _ w0 _ hk2 hb2').mono ?_); rintro e w3 ⟨a3, c3, rfl, hk3, hb3⟩; have hx3 := hx2.below hb3; obtain ⟨d0, d1, d2, d3, d4, d5, d6, d7⟩ := hx3.cells; obtain ⟨f0, f1, f2, f3, f4, f5, f6, f7⟩ := hx3.frees; have hp3 := hp2.fresh hb3; have hp4 := hp3.set8 hx3 hn0 (.int .i64 q.inn.op) (.int .u64 (wd q.inn.set 0)) (.int .u64 (wd q.inn.set 1)) (.int .u64 (wd q.inn.set 2)) (.int .u64 (wd q.inn.set 3)) (.int .i64 q.inn.lo) (.int .i64 q.inn.hi) (.slice a3 q.inn.kids.length c3); have hx4 := hx3.store (.int .i64 q.inn.op) (.int .u64 (wd q.inn.set 0)) (.int .u64 (wd q.inn.set 1)) (.int .u64 (wd q.inn.set 2)) (.int .u64 (wd q.inn.set 3)) (.int .i64 q.inn.lo) (.int .i64 q.inn.hi) (.slice a3 q.inn.kids.length c3); obtain ⟨e0, e1, e2, e3, e4, e5, e6, e7⟩ := hx4.cells)
            | (go_at_call 69; (with_reducible refine (level_lit q.inn _ _ lv HV.out _).mono ?_); rintro e w5 ⟨rfl, hb5⟩; have hx5 := hx4.below hb5; obtain ⟨g0, g1, g2, g3, g4, g5, g6, g7⟩ := hx5.cells; have hp5 := hp4.fresh hb5)
            | (go_at_call 70; (with_reducible refine (group_pr w0 b g q.inn hS' _ _ _ _ hk3 hp5 (by simp; omega)).mono ?_); rintro e w6 ⟨rfl, hp6, kk6⟩))
          go_roundw
          case rel =>
            refine ⟨k + 1, by omega, num_succ k, ?_, (((kept_set8 (((hkept.trans (kp_of_below hb1)).trans kk2).trans (kp_of_below hb3)) hsz (.int .i64 q.inn.op) (.int .u64 (wd q.inn.set 0)) (.int .u64 (wd q.inn.set 1)) (.int .u64 (wd q.inn.set 2)) (.int .u64 (wd q.inn.set 3)) (.int .i64 q.inn.lo) (.int .i64 q.inn.hi) (.slice a3 q.inn.kids.length c3)).trans (kp_of_below hb5)).trans kk6)⟩
            rw [HT2.out]
            simpa [List.append_assoc] using hp6
          case measure => simp [intOf]; omega
        · have hpo : partOf least q.inn.shw = q.inn.shw.2 := by unfold partOf; rw [hlev, if_neg hlv]
          have hdl : decide (lv < least) = false := decide_eq_false hlv
          rw [hpo] at hT
          have hL := HL.out
          rw [hT] at hL
          simp at hL
          have HT2 := Lib.hid hT
          clear hT hpo hlev hlv
          go_wp2_with (first
            | (go_at_call 43; (with_reducible refine (pr_ws z hp1 (by simp; omega)).mono ?_); rintro e w2 ⟨rfl, hp2, kk2⟩; have hb2' := hp2.1; have hx2 := hx1.kept kk2 hne; obtain ⟨c0, c1, c3', c4, c5, c6, c7, c8⟩ := hx2.cells)
            | (go_at_call 42; (with_reducible refine (inner_any q _ w0 _ hk2 hb2').mono ?_); rintro e w3 ⟨a3, c3, rfl, hk3, hb3⟩; have hx3 := hx2.below hb3; obtain ⟨d0, d1, d2, d3, d4, d5, d6, d7⟩ := hx3.cells; obtain ⟨f0, f1, f2, f3, f4, f5, f6, f7⟩ := hx3.frees; have hp3 := hp2.fresh hb3; have hp4 := hp3.set8 hx3 hn0 (.int .i64 q.inn.op) (.int .u64 (wd q.inn.set 0)) (.int .u64 (wd q.inn.set 1)) (.int .u64 (wd q.inn.set 2)) (.int .u64 (wd q.inn.set 3)) (.int .i64 q.inn.lo) (.int .i64 q.inn.hi) (.slice a3 q.inn.kids.length c3); have hx4 := hx3.store (.int .i64 q.inn.op) (.int .u64 (wd q.inn.set 0)) (.int .u64 (wd q.inn.set 1)) (.int .u64 (wd q.inn.set 2)) (.int .u64 (wd q.inn.set 3)) (.int .i64 q.inn.lo) (.int .i64 q.inn.hi) (.slice a3 q.inn.kids.length c3); obtain ⟨e0, e1, e2, e3, e4, e5, e6, e7⟩ := hx4.cells)
            | (go_at_call 69; (with_reducible refine (level_lit q.inn _ _ lv HV.out _).mono ?_); rintro e w5 ⟨rfl, hb5⟩; have hx5 := hx4.below hb5; obtain ⟨g0, g1, g2, g3, g4, g5, g6, g7⟩ := hx5.cells; have hp5 := hp4.fresh hb5)
            | (go_at_call 21; (with_reducible refine (hq _ _ _ _ hk3 hp5 (by simp; omega)).mono ?_); rintro e w6 ⟨rfl, hp6, kk6⟩))
          go_roundw
          case rel =>
            refine ⟨k + 1, by omega, num_succ k, ?_, (((kept_set8 (((hkept.trans (kp_of_below hb1)).trans kk2).trans (kp_of_below hb3)) hsz (.int .i64 q.inn.op) (.int .u64 (wd q.inn.set 0)) (.int .u64 (wd q.inn.set 1)) (.int .u64 (wd q.inn.set 2)) (.int .u64 (wd q.inn.set 3)) (.int .i64 q.inn.lo) (.int .i64 q.inn.hi) (.slice a3 q.inn.kids.length c3)).trans (kp_of_below hb5)).trans kk6)⟩
            rw [HT2.out]
            simpa [List.append_assoc] using hp6
          case measure => simp [intOf]; omega
    · obtain rfl : k = kids.length := by omega
      rw [← hsl, List.take_length] at hp
      go_wp2
      first | go_end0 | refine bodyPost_ret (results_none rfl _ _ _) rfl ?_
      exact ⟨rfl, hp, hkept⟩
end Go.Proofs.YtkpfpegjapddfaaGreatDoor
set_option maxRecDepth 20000
namespace Go.Proofs.YtkpfpegjapddfaaGreatDoor
open Go.RowKit

theorem row_lit (w0 : World) (b g : Nat) (kids : List Pat) (hS : ∀ k ∈ kids, ShowAt w0 b g k.inn) (z : ByteArray) (sep : List UInt8) (hz : z.data.toList = sep) (least : Int) (a : Option Addr) (c : Nat) (w : World) (l : List UInt8) (hk : Kids w0 kids (.slice a kids.length c)) (h : Pr w0 w b g l)
    (hlen : l.length + (rowO sep least (Pat.shws kids)).length ≤ 99999999) (hkn : kids.length < 99999) :
    Calls Tryz.prog 44 #[.pointer (some ⟨b, 0, none⟩), .slice a kids.length c, .string z, .int .i64 least] w fun e w' => PrPost w0 w b g (l ++ rowO sep least (Pat.shws kids)) e w' := by
  subst hz
  exact row_pr w0 b g kids hS z least a c w l hk h hlen hkn
set_option maxHeartbeats 1000000 in
theorem rowOr_pr (w0 : World) (b g : Nat) (kids : List Pat) (hS : ∀ k ∈ kids, ShowAt w0 b g k.inn) (z0 z : ByteArray) (none0 sep : List UInt8) (hz0 : z0.data.toList = none0) (hz : z.data.toList = sep) (least : Int) (a : Option Addr) (c : Nat) (w : World) (l : List UInt8) (hk : Kids w0 kids (.slice a kids.length c)) (h : Pr w0 w b g l)
    (hlen : l.length + ((if kids.length = 0 then none0 else []) ++ rowO sep least (Pat.shws kids)).length ≤ 99999999) (hkn : kids.length < 99999) :
    Calls Tryz.prog 45 #[.pointer (some ⟨b, 0, none⟩), .string z0, .slice a kids.length c, .string z, .int .i64 least] w fun e w' => PrPost w0 w b g (l ++ ((if kids.length = 0 then none0 else []) ++ rowO sep least (Pat.shws kids))) e w' := by
  have h0l := str_len z0
  by_cases h0 : kids.length = 0
  · have hb : ((kids.length : Int) == 0) = true := by rw [h0]; rfl
    rw [if_pos h0] at hlen ⊢
    rw [List.length_append] at hlen
    clear h0
    go_enter Tryz.func45, Tryz.ntmps45
    go_wp2_with (first
      | (go_at_call 43; (with_reducible refine (pr_ws z0 h (by rw [← h0l, hz0]; omega)).mono ?_); rintro e w2 ⟨rfl, h2, k2⟩)
      | (go_at_call 44; (with_reducible refine (row_lit w0 b g kids hS z sep hz least a c _ _ hk h2 (by rw [hz0]; simp; omega) hkn).mono ?_); rintro e w3 ⟨rfl, h3, k3⟩))
    first | go_end0 | refine bodyPost_ret (results_none rfl _ _ _) rfl ?_
    rw [hz0] at h3
    exact ⟨rfl, by simpa [List.append_assoc] using h3, k2.trans k3⟩
  · have hb : ((kids.length : Int) == 0) = false := by rw [beq_eq_false_iff_ne]; omega
    rw [if_neg h0] at hlen ⊢
    rw [List.nil_append] at hlen
    clear h0
    go_enter Tryz.func45, Tryz.ntmps45
    go_wp2_with (first
      | (go_at_call 44; (with_reducible refine (row_lit w0 b g kids hS z sep hz least a c _ _ hk h (by omega) hkn).mono ?_); rintro e w3 ⟨rfl, h3, k3⟩))
    first | go_end0 | refine bodyPost_ret (results_none rfl _ _ _) rfl ?_
    exact ⟨rfl, by simpa [List.append_assoc] using h3, k3⟩
theorem rowOr_lit (w0 : World) (b g : Nat) (kids : List Pat) (hS : ∀ k ∈ kids, ShowAt w0 b g k.inn) (z0 z : ByteArray) (none0 sep : List UInt8) (hz0 : z0.data.toList = none0) (hz : z.data.toList = sep) (least : Int) (T : List UInt8) (hT : (if kids.length = 0 then none0 else []) ++ rowO sep least (Pat.shws kids) = T) (a : Option Addr) (c : Nat) (w : World) (l : List UInt8) (hk : Kids w0 kids (.slice a kids.length c)) (h : Pr w0 w b g l)
    (hlen : l.length + T.length ≤ 99999999) (hkn : kids.length < 99999) :
    Calls Tryz.prog 45 #[.pointer (some ⟨b, 0, none⟩), .string z0, .slice a kids.length c, .string z, .int .i64 least] w fun e w' => PrPost w0 w b g (l ++ T) e w' := by
  subst hT
  exact rowOr_pr w0 b g kids hS z0 z none0 sep hz0 hz least a c w l hk h hlen hkn
theorem toArr (l : List UInt8) : (⟨l.toArray⟩ : ByteArray).size = l.length := rfl
theorem shw_text (p : Pat) : p.shw.2 = textOf p.inn.op p.inn.set p.inn.lo p.inn.hi (Pat.shws p.inn.kids) := by
  rw [← shw_inn _ p (Nat.le_refl _), shw_self (inn_size _ p (Nat.le_refl _)).2]
theorem kid_size {l : List Pat} : ∀ {k : Pat}, k ∈ l → k.size ≤ Pat.sizes l := by
  induction l with
  | nil => intro k h; simp at h
  | cons x l ih =>
    intro k h
    simp only [Pat.sizes]
    rcases List.mem_cons.1 h with rfl | h
    · omega
    · have := ih h; omega
theorem sizes_len : ∀ (l : List Pat), l.length ≤ Pat.sizes l
  | [] => by simp [Pat.sizes]
  | p :: l => by
    have := sizes_len l
    have := size_eq p
    simp only [Pat.sizes, List.length_cons]
    omega
set_option maxHeartbeats 4000000 in
theorem show_step (w0 : World) (b g : Nat) (hT : Tab w0) (p : Pat) (hS : ∀ k ∈ p.inn.kids, ShowAt w0 b g k.inn) (hsz : p.size < 99999) (hsm : p.inn.op = 3 → 0 ≤ p.inn.lo ∧ p.inn.lo < 100 ∧ p.inn.hi < 100) : ShowAt w0 b g p := by
  intro a c w l hk h hlen
  have hx0 := Box.new w #[.int .i64 p.op, .int .u64 (wd p.set 0), .int .u64 (wd p.set 1), .int .u64 (wd p.set 2), .int .u64 (wd p.set 3), .int .i64 p.lo, .int .i64 p.hi, .slice a p.kids.length c] rfl
  have b0 : Below w.heap.size w (w.alloc (.cells #[.int .i64 p.op, .int .u64 (wd p.set 0), .int .u64 (wd p.set 1), .int .u64 (wd p.set 2), .int .u64 (wd p.set 3), .int .i64 p.lo, .int .i64 p.hi, .slice a p.kids.length c] 28)) := (Below.refl _ _).alloc (Nat.le_refl _) _
  have h0 := h.fresh b0
  have hb0 := h0.1
  have k0 : Kp b w (w.alloc (.cells #[.int .i64 p.op, .int .u64 (wd p.set 0), .int .u64 (wd p.set 1), .int .u64 (wd p.set 2), .int .u64 (wd p.set 3), .int .i64 p.lo, .int .i64 p.hi, .slice a p.kids.length c] 28)) := kp_of_below b0
  have hn0 := h.2.2.2
  have hkl : p.inn.kids.length < 99999 := by
    have h1 := (inn_size _ p (Nat.le_refl _)).1
    have h2 := size_eq p.inn
    have h3 := sizes_len p.inn.kids
    omega
  rw [shw_text p] at hlen ⊢
  obtain ⟨o, ho⟩ : ∃ z, p.inn.op = z := ⟨_, rfl⟩
  have hsl : (Pat.shws p.inn.kids).length = p.inn.kids.length := by rw [shws_map, List.length_map]
  rw [ho] at hlen hsm ⊢
  have hne := h0.notBox hx0
  by_cases h0 : o = 0
  · have htx : textOf o p.inn.set p.inn.lo p.inn.hi (Pat.shws p.inn.kids) = classOut p.inn.set := by unfold textOf; rw [if_pos h0]
    rw [htx] at hlen ⊢
    have q0 : (o == 0) = true := by rw [h0]; rfl
    clear htx hsm h0
    go_enter Tryz.func21, Tryz.ntmps21
    go_wp2_with (first | (go_at_call 42; (with_reducible refine (inner_any p _ w0 _ hk hb0).mono ?_); rintro e w3 ⟨a3, c3, rfl, hk3, hb3⟩; have hx3 := hx0.below hb3; obtain ⟨d0, d1, d2, d3, d4, d5, d6, d7⟩ := hx3.cells; obtain ⟨f0, f1, f2, f3, f4, f5, f6, f7⟩ := hx3.frees; have hp3 := h0.fresh hb3; have hp4 := hp3.set8 hx3 hn0 (.int .i64 o) (.int .u64 (wd p.inn.set 0)) (.int .u64 (wd p.inn.set 1)) (.int .u64 (wd p.inn.set 2)) (.int .u64 (wd p.inn.set 3)) (.int .i64 p.inn.lo) (.int .i64 p.inn.hi) (.slice a3 p.inn.kids.length c3); have hx4 := hx3.store (.int .i64 o) (.int .u64 (wd p.inn.set 0)) (.int .u64 (wd p.inn.set 1)) (.int .u64 (wd p.inn.set 2)) (.int .u64 (wd p.inn.set 3)) (.int .i64 p.inn.lo) (.int .i64 p.inn.hi) (.slice a3 p.inn.kids.length c3); obtain ⟨e0, e1, e2, e3, e4, e5, e6, e7⟩ := hx4.cells; have kk4 := kept_set8 (k0.trans (kp_of_below hb3)) (Nat.le_refl _) (.int .i64 o) (.int .u64 (wd p.inn.set 0)) (.int .u64 (wd p.inn.set 1)) (.int .u64 (wd p.inn.set 2)) (.int .u64 (wd p.inn.set 3)) (.int .i64 p.inn.lo) (.int .i64 p.inn.hi) (.slice a3 p.inn.kids.length c3)) | fail)
    have hp4d := hp4.drew
    go_region_with (first
      | (go_at_call 12; refine (class_text p.inn.set _ (hT.below hp4d.1)).mono ?_; rintro e w5 ⟨rfl, hb5⟩; have hp5 := hp4d.fresh hb5)
      | (go_at_call 43; refine (pr_ws _ hp5 (by rw [toArr]; exact hlen)).mono ?_; rintro e w6 ⟨rfl, h6, k6⟩))
    all_goals
      go_wp2
      first | go_end0 | refine bodyPost_ret (results_none rfl _ _ _) rfl ?_
      exact ⟨rfl, h6, (kk4.trans (kp_of_below (b := b) hb5).undrew).trans k6⟩
  by_cases h1 : o = 1
  · have htx : textOf o p.inn.set p.inn.lo p.inn.hi (Pat.shws p.inn.kids) = rowO [] 3 (Pat.shws p.inn.kids) := by unfold textOf; rw [if_neg h0, if_pos h1]
    rw [htx] at hlen ⊢
    have q0 : (o == 0) = false := by rw [beq_eq_false_iff_ne]; exact h0
    have q1 : (o == 1) = true := by rw [h1]; rfl
    clear htx hsm h0 h1
    go_enter Tryz.func21, Tryz.ntmps21
    go_wp2_with (first
      | (go_at_call 42; (with_reducible refine (inner_any p _ w0 _ hk hb0).mono ?_); rintro e w3 ⟨a3, c3, rfl, hk3, hb3⟩; have hx3 := hx0.below hb3; obtain ⟨d0, d1, d2, d3, d4, d5, d6, d7⟩ := hx3.cells; obtain ⟨f0, f1, f2, f3, f4, f5, f6, f7⟩ := hx3.frees; have hp3 := h0.fresh hb3; have hp4 := hp3.set8 hx3 hn0 (.int .i64 o) (.int .u64 (wd p.inn.set 0)) (.int .u64 (wd p.inn.set 1)) (.int .u64 (wd p.inn.set 2)) (.int .u64 (wd p.inn.set 3)) (.int .i64 p.inn.lo) (.int .i64 p.inn.hi) (.slice a3 p.inn.kids.length c3); have hx4 := hx3.store (.int .i64 o) (.int .u64 (wd p.inn.set 0)) (.int .u64 (wd p.inn.set 1)) (.int .u64 (wd p.inn.set 2)) (.int .u64 (wd p.inn.set 3)) (.int .i64 p.inn.lo) (.int .i64 p.inn.hi) (.slice a3 p.inn.kids.length c3); obtain ⟨e0, e1, e2, e3, e4, e5, e6, e7⟩ := hx4.cells; have kk4 := kept_set8 (k0.trans (kp_of_below hb3)) (Nat.le_refl _) (.int .i64 o) (.int .u64 (wd p.inn.set 0)) (.int .u64 (wd p.inn.set 1)) (.int .u64 (wd p.inn.set 2)) (.int .u64 (wd p.inn.set 3)) (.int .i64 p.inn.lo) (.int .i64 p.inn.hi) (.slice a3 p.inn.kids.length c3))
      | (go_at_call 44; (with_reducible refine (row_lit w0 b g p.inn.kids hS ⟨#[]⟩ [] rfl 3 a3 c3 _ _ hk3 hp4 (by first | omega | (simp; omega)) hkl).mono ?_); rintro e w6 ⟨rfl, h6, k6⟩))
    first | go_end0 | refine bodyPost_ret (results_none rfl _ _ _) rfl ?_
    exact ⟨rfl, h6, kk4.trans k6⟩
  by_cases h2 : o = 2
  · have htx : textOf o p.inn.set p.inn.lo p.inn.hi (Pat.shws p.inn.kids) = (if p.inn.kids.length = 0 then [91, 93] else []) ++ rowO [124] 1 (Pat.shws p.inn.kids) := by unfold textOf; rw [if_neg h0, if_neg h1, if_pos h2]; rw [hsl]
    rw [htx] at hlen ⊢
    have q0 : (o == 0) = false := by rw [beq_eq_false_iff_ne]; exact h0
    have q1 : (o == 1) = false := by rw [beq_eq_false_iff_ne]; exact h1
    have q2 : (o == 2) = true := by rw [h2]; rfl
    obtain ⟨T, hTT⟩ : ∃ z, (if p.inn.kids.length = 0 then [91, 93] else []) ++ rowO [124] 1 (Pat.shws p.inn.kids) = z := ⟨_, rfl⟩
    rw [hTT] at hlen ⊢
    have HT := Lib.hid hTT
    clear hTT
    clear htx hsm h0 h1 h2
    go_enter Tryz.func21, Tryz.ntmps21
    go_wp2_with (first
      | (go_at_call 42; (with_reducible refine (inner_any p _ w0 _ hk hb0).mono ?_); rintro e w3 ⟨a3, c3, rfl, hk3, hb3⟩; have hx3 := hx0.below hb3; obtain ⟨d0, d1, d2, d3, d4, d5, d6, d7⟩ := hx3.cells; obtain ⟨f0, f1, f2, f3, f4, f5, f6, f7⟩ := hx3.frees; have hp3 := h0.fresh hb3; have hp4 := hp3.set8 hx3 hn0 (.int .i64 o) (.int .u64 (wd p.inn.set 0)) (.int .u64 (wd p.inn.set 1)) (.int .u64 (wd p.inn.set 2)) (.int .u64 (wd p.inn.set 3)) (.int .i64 p.inn.lo) (.int .i64 p.inn.hi) (.slice a3 p.inn.kids.length c3); have hx4 := hx3.store (.int .i64 o) (.int .u64 (wd p.inn.set 0)) (.int .u64 (wd p.inn.set 1)) (.int .u64 (wd p.inn.set 2)) (.int .u64 (wd p.inn.set 3)) (.int .i64 p.inn.lo) (.int .i64 p.inn.hi) (.slice a3 p.inn.kids.length c3); obtain ⟨e0, e1, e2, e3, e4, e5, e6, e7⟩ := hx4.cells; have kk4 := kept_set8 (k0.trans (kp_of_below hb3)) (Nat.le_refl _) (.int .i64 o) (.int .u64 (wd p.inn.set 0)) (.int .u64 (wd p.inn.set 1)) (.int .u64 (wd p.inn.set 2)) (.int .u64 (wd p.inn.set 3)) (.int .i64 p.inn.lo) (.int .i64 p.inn.hi) (.slice a3 p.inn.kids.length c3))
      | (go_at_call 45; (with_reducible refine (rowOr_lit w0 b g p.inn.kids hS ⟨#[91, 93]⟩ ⟨#[124]⟩ [91, 93] [124] rfl rfl 1 T HT.out a3 c3 _ _ hk3 hp4 hlen hkl).mono ?_); rintro e w6 ⟨rfl, h6, k6⟩))
    first | go_end0 | refine bodyPost_ret (results_none rfl _ _ _) rfl ?_
    exact ⟨rfl, h6, kk4.trans k6⟩
  by_cases h4 : o = 4
  · have htx : textOf o p.inn.set p.inn.lo p.inn.hi (Pat.shws p.inn.kids) = (if p.inn.kids.length = 0 then [91, 94, 93, 42] else []) ++ rowO [38] 2 (Pat.shws p.inn.kids) := by unfold textOf; rw [if_neg h0, if_neg h1, if_neg h2, if_pos h4]; rw [hsl]
    rw [htx] at hlen ⊢
    have q0 : (o == 0) = false := by rw [beq_eq_false_iff_ne]; exact h0
    have q1 : (o == 1) = false := by rw [beq_eq_false_iff_ne]; exact h1
    have q2 : (o == 2) = false := by rw [beq_eq_false_iff_ne]; exact h2
    have q4 : (o == 4) = true := by rw [h4]; rfl
    obtain ⟨T, hTT⟩ : ∃ z, (if p.inn.kids.length = 0 then [91, 94, 93, 42] else []) ++ rowO [38] 2 (Pat.shws p.inn.kids) = z := ⟨_, rfl⟩
    rw [hTT] at hlen ⊢
    have HT := Lib.hid hTT
    clear hTT
    clear htx hsm h0 h1 h2 h4
    go_enter Tryz.func21, Tryz.ntmps21
    go_wp2_with (first
      | (go_at_call 42; (with_reducible refine (inner_any p _ w0 _ hk hb0).mono ?_); rintro e w3 ⟨a3, c3, rfl, hk3, hb3⟩; have hx3 := hx0.below hb3; obtain ⟨d0, d1, d2, d3, d4, d5, d6, d7⟩ := hx3.cells; obtain ⟨f0, f1, f2, f3, f4, f5, f6, f7⟩ := hx3.frees; have hp3 := h0.fresh hb3; have hp4 := hp3.set8 hx3 hn0 (.int .i64 o) (.int .u64 (wd p.inn.set 0)) (.int .u64 (wd p.inn.set 1)) (.int .u64 (wd p.inn.set 2)) (.int .u64 (wd p.inn.set 3)) (.int .i64 p.inn.lo) (.int .i64 p.inn.hi) (.slice a3 p.inn.kids.length c3); have hx4 := hx3.store (.int .i64 o) (.int .u64 (wd p.inn.set 0)) (.int .u64 (wd p.inn.set 1)) (.int .u64 (wd p.inn.set 2)) (.int .u64 (wd p.inn.set 3)) (.int .i64 p.inn.lo) (.int .i64 p.inn.hi) (.slice a3 p.inn.kids.length c3); obtain ⟨e0, e1, e2, e3, e4, e5, e6, e7⟩ := hx4.cells; have kk4 := kept_set8 (k0.trans (kp_of_below hb3)) (Nat.le_refl _) (.int .i64 o) (.int .u64 (wd p.inn.set 0)) (.int .u64 (wd p.inn.set 1)) (.int .u64 (wd p.inn.set 2)) (.int .u64 (wd p.inn.set 3)) (.int .i64 p.inn.lo) (.int .i64 p.inn.hi) (.slice a3 p.inn.kids.length c3))
      | (go_at_call 45; (with_reducible refine (rowOr_lit w0 b g p.inn.kids hS ⟨#[91, 94, 93, 42]⟩ ⟨#[38]⟩ [91, 94, 93, 42] [38] rfl rfl 2 T HT.out a3 c3 _ _ hk3 hp4 hlen hkl).mono ?_); rintro e w6 ⟨rfl, h6, k6⟩))
    first | go_end0 | refine bodyPost_ret (results_none rfl _ _ _) rfl ?_
    exact ⟨rfl, h6, kk4.trans k6⟩
  by_cases h5 : o = 5
  · have htx : textOf o p.inn.set p.inn.lo p.inn.hi (Pat.shws p.inn.kids) = [126] ++ rowO [] 3 (Pat.shws p.inn.kids) := by unfold textOf; rw [if_neg h0, if_neg h1, if_neg h2, if_neg h4, if_pos h5]
    rw [htx] at hlen ⊢
    have q0 : (o == 0) = false := by rw [beq_eq_false_iff_ne]; exact h0
    have q1 : (o == 1) = false := by rw [beq_eq_false_iff_ne]; exact h1
    have q2 : (o == 2) = false := by rw [beq_eq_false_iff_ne]; exact h2
    have q4 : (o == 4) = false := by rw [beq_eq_false_iff_ne]; exact h4
    have q5 : (o == 5) = true := by rw [h5]; rfl
    simp at hlen
    clear htx hsm h0 h1 h2 h4 h5
    go_enter Tryz.func21, Tryz.ntmps21
    go_wp2_with (first
      | (go_at_call 42; (with_reducible refine (inner_any p _ w0 _ hk hb0).mono ?_); rintro e w3 ⟨a3, c3, rfl, hk3, hb3⟩; have hx3 := hx0.below hb3; obtain ⟨d0, d1, d2, d3, d4, d5, d6, d7⟩ := hx3.cells; obtain ⟨f0, f1, f2, f3, f4, f5, f6, f7⟩ := hx3.frees; have hp3 := h0.fresh hb3; have hp4 := hp3.set8 hx3 hn0 (.int .i64 o) (.int .u64 (wd p.inn.set 0)) (.int .u64 (wd p.inn.set 1)) (.int .u64 (wd p.inn.set 2)) (.int .u64 (wd p.inn.set 3)) (.int .i64 p.inn.lo) (.int .i64 p.inn.hi) (.slice a3 p.inn.kids.length c3); have hx4 := hx3.store (.int .i64 o) (.int .u64 (wd p.inn.set 0)) (.int .u64 (wd p.inn.set 1)) (.int .u64 (wd p.inn.set 2)) (.int .u64 (wd p.inn.set 3)) (.int .i64 p.inn.lo) (.int .i64 p.inn.hi) (.slice a3 p.inn.kids.length c3); obtain ⟨e0, e1, e2, e3, e4, e5, e6, e7⟩ := hx4.cells; have kk4 := kept_set8 (k0.trans (kp_of_below hb3)) (Nat.le_refl _) (.int .i64 o) (.int .u64 (wd p.inn.set 0)) (.int .u64 (wd p.inn.set 1)) (.int .u64 (wd p.inn.set 2)) (.int .u64 (wd p.inn.set 3)) (.int .i64 p.inn.lo) (.int .i64 p.inn.hi) (.slice a3 p.inn.kids.length c3))
      | (go_at_call 31; (with_reducible refine (pr_wb 126 126 (by decide) hp4 (by omega)).mono ?_); rintro e w5 ⟨rfl, hp5, k5⟩; obtain ⟨c0, c1, c2, c3', c4, c5, c6, c7⟩ := (hx4.kept k5 hne).cells)
      | (go_at_call 44; (with_reducible refine (row_lit w0 b g p.inn.kids hS ⟨#[]⟩ [] rfl 3 a3 c3 _ _ hk3 hp5 (by first | omega | (simp; omega)) hkl).mono ?_); rintro e w6 ⟨rfl, h6, k6⟩))
    first | go_end0 | refine bodyPost_ret (results_none rfl _ _ _) rfl ?_
    exact ⟨rfl, by simpa [List.append_assoc] using h6, (kk4.trans k5).trans k6⟩
  by_cases h3 : o = 3
  · have htx : textOf o p.inn.set p.inn.lo p.inn.hi (Pat.shws p.inn.kids) = rowO [] 4 (Pat.shws p.inn.kids) ++ repOut p.inn.lo p.inn.hi := by unfold textOf; rw [if_neg h0, if_neg h1, if_neg h2, if_neg h4, if_neg h5, if_pos h3]
    rw [htx] at hlen ⊢
    obtain ⟨hs1, hs2, hs3⟩ := hsm h3
    have q0 : (o == 0) = false := by rw [beq_eq_false_iff_ne]; exact h0
    have q1 : (o == 1) = false := by rw [beq_eq_false_iff_ne]; exact h1
    have q2 : (o == 2) = false := by rw [beq_eq_false_iff_ne]; exact h2
    have q4 : (o == 4) = false := by rw [beq_eq_false_iff_ne]; exact h4
    have q5 : (o == 5) = false := by rw [beq_eq_false_iff_ne]; exact h5
    have q3 : (o == 3) = true := by rw [h3]; rfl
    simp at hlen
    clear htx hsm h0 h1 h2 h4 h5 h3
    go_enter Tryz.func21, Tryz.ntmps21
    go_wp2_with (first
      | (go_at_call 42; (with_reducible refine (inner_any p _ w0 _ hk hb0).mono ?_); rintro e w3 ⟨a3, c3, rfl, hk3, hb3⟩; have hx3 := hx0.below hb3; obtain ⟨d0, d1, d2, d3, d4, d5, d6, d7⟩ := hx3.cells; obtain ⟨f0, f1, f2, f3, f4, f5, f6, f7⟩ := hx3.frees; have hp3 := h0.fresh hb3; have hp4 := hp3.set8 hx3 hn0 (.int .i64 o) (.int .u64 (wd p.inn.set 0)) (.int .u64 (wd p.inn.set 1)) (.int .u64 (wd p.inn.set 2)) (.int .u64 (wd p.inn.set 3)) (.int .i64 p.inn.lo) (.int .i64 p.inn.hi) (.slice a3 p.inn.kids.length c3); have hx4 := hx3.store (.int .i64 o) (.int .u64 (wd p.inn.set 0)) (.int .u64 (wd p.inn.set 1)) (.int .u64 (wd p.inn.set 2)) (.int .u64 (wd p.inn.set 3)) (.int .i64 p.inn.lo) (.int .i64 p.inn.hi) (.slice a3 p.inn.kids.length c3); obtain ⟨e0, e1, e2, e3, e4, e5, e6, e7⟩ := hx4.cells; have kk4 := kept_set8 (k0.trans (kp_of_below hb3)) (Nat.le_refl _) (.int .i64 o) (.int .u64 (wd p.inn.set 0)) (.int .u64 (wd p.inn.set 1)) (.int .u64 (wd p.inn.set 2)) (.int .u64 (wd p.inn.set 3)) (.int .i64 p.inn.lo) (.int .i64 p.inn.hi) (.slice a3 p.inn.kids.length c3))
      | (go_at_call 44; (with_reducible refine (row_lit w0 b g p.inn.kids hS ⟨#[]⟩ [] rfl 4 a3 c3 _ _ hk3 hp4 (by first | omega | (simp; omega)) hkl).mono ?_); rintro e w6 ⟨rfl, h6, k6⟩); obtain ⟨c0, c1, c2, c3', c4, c5, c6, c7⟩ := (hx4.kept k6 hne).cells
      | (go_at_call 46; (with_reducible refine (prep_any p.inn.lo p.inn.hi hs1 hs2 hs3 w0 _ b g _ h6 (by simp; omega)).mono ?_); rintro e w7 ⟨rfl, h7, k7⟩))
    first | go_end0 | refine bodyPost_ret (results_none rfl _ _ _) rfl ?_
    exact ⟨rfl, by simpa [List.append_assoc] using h7, (kk4.trans k6).trans k7⟩
  have htx : textOf o p.inn.set p.inn.lo p.inn.hi (Pat.shws p.inn.kids) = [] := by unfold textOf; rw [if_neg h0, if_neg h1, if_neg h2, if_neg h4, if_neg h5, if_neg h3]
  rw [htx] at hlen ⊢
  have q0 : (o == 0) = false := by rw [beq_eq_false_iff_ne]; exact h0
  have q1 : (o == 1) = false := by rw [beq_eq_false_iff_ne]; exact h1
  have q2 : (o == 2) = false := by rw [beq_eq_false_iff_ne]; exact h2
  have q4 : (o == 4) = false := by rw [beq_eq_false_iff_ne]; exact h4
  have q5 : (o == 5) = false := by rw [beq_eq_false_iff_ne]; exact h5
  have q3 : (o == 3) = false := by rw [beq_eq_false_iff_ne]; exact h3
  clear htx hsm h0 h1 h2 h4 h5 h3
  go_enter Tryz.func21, Tryz.ntmps21
  go_wp2_with (first | (go_at_call 42; (with_reducible refine (inner_any p _ w0 _ hk hb0).mono ?_); rintro e w3 ⟨a3, c3, rfl, hk3, hb3⟩; have hx3 := hx0.below hb3; obtain ⟨d0, d1, d2, d3, d4, d5, d6, d7⟩ := hx3.cells; obtain ⟨f0, f1, f2, f3, f4, f5, f6, f7⟩ := hx3.frees; have hp3 := h0.fresh hb3; have hp4 := hp3.set8 hx3 hn0 (.int .i64 o) (.int .u64 (wd p.inn.set 0)) (.int .u64 (wd p.inn.set 1)) (.int .u64 (wd p.inn.set 2)) (.int .u64 (wd p.inn.set 3)) (.int .i64 p.inn.lo) (.int .i64 p.inn.hi) (.slice a3 p.inn.kids.length c3); have hx4 := hx3.store (.int .i64 o) (.int .u64 (wd p.inn.set 0)) (.int .u64 (wd p.inn.set 1)) (.int .u64 (wd p.inn.set 2)) (.int .u64 (wd p.inn.set 3)) (.int .i64 p.inn.lo) (.int .i64 p.inn.hi) (.slice a3 p.inn.kids.length c3); obtain ⟨e0, e1, e2, e3, e4, e5, e6, e7⟩ := hx4.cells; have kk4 := kept_set8 (k0.trans (kp_of_below hb3)) (Nat.le_refl _) (.int .i64 o) (.int .u64 (wd p.inn.set 0)) (.int .u64 (wd p.inn.set 1)) (.int .u64 (wd p.inn.set 2)) (.int .u64 (wd p.inn.set 3)) (.int .i64 p.inn.lo) (.int .i64 p.inn.hi) (.slice a3 p.inn.kids.length c3)) | fail)
  first | go_end0 | refine bodyPost_ret (results_none rfl _ _ _) rfl ?_
  rw [List.append_nil]
  exact ⟨rfl, hp4, kk4⟩
theorem show_all (w0 : World) (b g : Nat) (hT : Tab w0) : ∀ (n : Nat) (p : Pat), p.size < n → n ≤ 99999 → p.sm = true → ShowAt w0 b g p
  | 0, p, h, _, _ => by omega
  | n + 1, p, h, hn, hm => by
    have hi := inn_size _ p (Nat.le_refl _)
    have hm2 := sm_parts (sm_inn _ p (Nat.le_refl _) hm)
    refine show_step w0 b g hT p (fun k hk => ?_) (by omega) hm2.1
    have h1 := kid_size hk
    have h2 := size_eq p.inn
    have h3 := (inn_size _ k (Nat.le_refl _)).1
    exact show_all w0 b g hT n k.inn (by omega) (by omega) (sm_inn _ k (Nat.le_refl _) (hm2.2 k hk))
end Go.Proofs.YtkpfpegjapddfaaGreatDoor
set_option maxRecDepth 20000
namespace Go.Proofs.YtkpfpegjapddfaaGreatDoor
open Go.RowKit

theorem pr_new (w w2 : World) (g : Nat) (hb : Below w.heap.size w w2) (hg : OpsT w2 g) : Pr w (w2.alloc (.cells #[.pointer none, .slice none 0 0, .map (some g)] 52)) w2.heap.size g [] := by
  have hbl := hb.alloc hb.size (.cells #[.pointer none, .slice none 0 0, .map (some g)] 52)
  obtain ⟨es, c, L, h1, h2⟩ := hg
  exact ⟨hbl, ⟨hb.size, _, _, heap_alloc_new w2 _, .inl rfl, World.ownsRowF_nil _ _ _ _⟩, ⟨es, c, L, (heap_alloc_old w2 _ (lt_of_block h1)).trans h1, h2⟩, hbl.size⟩
theorem string_pr {w0 w : World} {b g : Nat} {l : List UInt8} (h : Pr w0 w b g l) :
    Calls Tryz.prog 22 #[.pointer (some ⟨b, 0, none⟩)] w fun e w' => e = .returned (.string ⟨l.toArray⟩) ∧ Below w0.heap.size w0 w' := by
  obtain ⟨h1, ⟨_, p, v, hb, _, hown⟩, _, hsz⟩ := h
  refine (string_at w0.heap.size b l v w hsz (by rw [Lib.cell_of_heap hb]; rfl) hown).mono ?_
  rintro e w' ⟨rfl, hb2⟩
  exact ⟨rfl, h1.trans hb2⟩
set_option maxHeartbeats 2000000 in
theorem show_any (p : Pat) (a : Option Addr) (c : Nat) (w : World) (hT : Tab w) (hk : Kids w p.kids (.slice a p.kids.length c)) (hsz : p.size < 99998) (hsm : p.sm = true) (hlen : p.shw.2.length ≤ 99999999) :
    Calls Tryz.prog 10 #[(.agg #[.int .i64 p.op, .int .u64 (wd p.set 0), .int .u64 (wd p.set 1), .int .u64 (wd p.set 2), .int .u64 (wd p.set 3), .int .i64 p.lo, .int .i64 p.hi, .slice a p.kids.length c])] w fun e w' => e = .returned (.string ⟨p.shw.2.toArray⟩) ∧ Below w.heap.size w w' := by
  have hx0 := Box.new w #[.int .i64 p.op, .int .u64 (wd p.set 0), .int .u64 (wd p.set 1), .int .u64 (wd p.set 2), .int .u64 (wd p.set 3), .int .i64 p.lo, .int .i64 p.hi, .slice a p.kids.length c] rfl
  have b0 : Below w.heap.size w (w.alloc (.cells #[.int .i64 p.op, .int .u64 (wd p.set 0), .int .u64 (wd p.set 1), .int .u64 (wd p.set 2), .int .u64 (wd p.set 3), .int .i64 p.lo, .int .i64 p.hi, .slice a p.kids.length c] 28)) := (Below.refl _ _).alloc (Nat.le_refl _) _
  have hS : ∀ b g, ShowAt w b g p := fun b g => show_all w b g hT 99999 p (by omega) (by omega) hsm
  unfold ShowAt at hS
  have hs1 : (w.alloc (.cells #[.int .i64 p.op, .int .u64 (wd p.set 0), .int .u64 (wd p.set 1), .int .u64 (wd p.set 2), .int .u64 (wd p.set 3), .int .i64 p.lo, .int .i64 p.hi, .slice a p.kids.length c] 28)).heap.size = w.heap.size + 1 := by simp
  have hl : ([] : List UInt8).length + p.shw.2.length ≤ 99999999 := by simpa using hlen
  go_enter Tryz.func10, Tryz.ntmps10
  go_wp2_with (first
    | (go_at_call 20; (with_reducible refine (byTimes_any _).mono ?_); rintro e w2 ⟨rfl, hg, hb2⟩; rw [hs1] at hg; have hx2 := hx0.below hb2; have hp2 := pr_new w w2 (w.heap.size + 1) (below_step b0 hb2) hg; have hx3 := hx2.alloc (.cells #[.pointer none, .slice none 0 0, .map (some (w.heap.size + 1))] 52); obtain ⟨d0, d1, d2, d3, d4, d5, d6, d7⟩ := hx3.cells)
    | (go_at_call 21; (with_reducible refine (hS _ _ a c _ _ hk hp2 hl).mono ?_); rintro e w4 ⟨rfl, hp4, k4⟩)
    | (go_at_call 22; (with_reducible refine (string_pr hp4).mono ?_); rintro e w5 ⟨rfl, hb5⟩))
  go_ret
  exact ⟨rfl, hb5⟩
end Go.Proofs.YtkpfpegjapddfaaGreatDoor
set_option maxRecDepth 20000
namespace Go.Proofs.YtkpfpegjapddfaaGreatDoor
open Go.RowKit

theorem hex_read : ∀ n, n < 16 → 0 ≤ Lib.indexByte hexL (hexL.getD n 0) ∧ (Lib.indexByte hexL (hexL.getD n 0)).toNat = n := by decide
theorem oneB_esc (P : Nat → Bool) (r : List UInt8) (n k : Nat) (hu : unesc (92 :: r) = (n, k)) (hk : k ≠ 0) : oneB P (92 :: r) = some (n, k) := by
  simp [oneB, hu, hk]
theorem oneB_self (P : Nat → Bool) (c : UInt8) (r : List UInt8) (hc : c ≠ 92) (hp : P c.toNat = true) : oneB P (c :: r) = some (c.toNat, 1) := by
  simp [oneB, hc, hp]
theorem esc_read (P : Nat → Bool) (c : UInt8) (r : List UInt8) : oneB P (escOut c ++ r) = some (c.toNat, (escOut c).length) := by
  unfold escOut
  by_cases h1 : c = 10
  · subst h1; rfl
  rw [if_neg h1]
  by_cases h2 : c = 9
  · subst h2; rfl
  rw [if_neg h2]
  by_cases h3 : c = 13
  · subst h3; rfl
  rw [if_neg h3]
  by_cases h4 : escB c.toNat = true
  · rw [if_pos h4]
    have e1 : c ≠ 110 := by rintro rfl; exact absurd h4 (by decide)
    have e2 : c ≠ 116 := by rintro rfl; exact absurd h4 (by decide)
    have e3 : c ≠ 114 := by rintro rfl; exact absurd h4 (by decide)
    have hu : unesc ([92, c] ++ r) = (c.toNat, 2) := by
      show (if c = 110 then (10, 2) else if c = 116 then (9, 2) else if c = 114 then (13, 2) else if escB c.toNat = true then (c.toNat, 2) else _) = _
      rw [if_neg e1, if_neg e2, if_neg e3, if_pos h4]
    exact oneB_esc P _ _ 2 hu (by decide)
  · rw [if_neg h4]
    have hc := c.toNat_lt
    obtain ⟨a1, a2⟩ := hex_read (c.toNat / 16) (by omega)
    obtain ⟨b1, b2⟩ := hex_read (c.toNat % 16) (by omega)
    have hu : unesc ([92, 120, hexL.getD (c.toNat / 16) 0, hexL.getD (c.toNat % 16) 0] ++ r) = (c.toNat, 4) := by
      show (if (120 : UInt8) = 110 then (10, 2) else if (120 : UInt8) = 116 then (9, 2) else if (120 : UInt8) = 114 then (13, 2) else if escB (120 : UInt8).toNat = true then ((120 : UInt8).toNat, 2) else if (120 : UInt8) = 120 then (if 0 ≤ Lib.indexByte hexL (hexL.getD (c.toNat / 16) 0) ∧ 0 ≤ Lib.indexByte hexL (hexL.getD (c.toNat % 16) 0) then ((Lib.indexByte hexL (hexL.getD (c.toNat / 16) 0)).toNat * 16 + (Lib.indexByte hexL (hexL.getD (c.toNat % 16) 0)).toNat, 4) else (0, 0)) else (0, 0)) = _
      rw [if_neg (by decide), if_neg (by decide), if_neg (by decide), if_neg (by decide), if_pos rfl, if_pos ⟨a1, b1⟩, a2, b2]
      congr 1
      omega
    exact oneB_esc P _ _ 4 hu (by decide)
theorem escOut_head (c : UInt8) : ∃ t, escOut c = 92 :: t := by
  unfold escOut
  repeat' split
  all_goals exact ⟨_, rfl⟩
/-- A byte that is printed as itself or as its escape is read so again, where what stands for itself when printed does when read. -/
theorem out_read (P Q : Nat → Bool) (hQ : ∀ n, Q n = true → P n = true) (h92 : Q 92 = false) (c : UInt8) (r : List UInt8) : oneB P (byteOut (Q c.toNat) c ++ r) = some (c.toNat, (byteOut (Q c.toNat) c).length) := by
  unfold byteOut
  by_cases h : Q c.toNat = true
  · rw [if_pos h]
    have hc : c ≠ 92 := by
      rintro rfl
      rw [show (92 : UInt8).toNat = 92 from rfl, h92] at h
      exact absurd h (by decide)
    exact oneB_self P c r hc (hQ _ h)
  · rw [if_neg h]
    exact esc_read P c r
theorem out_head (Q : Nat → Bool) (c : UInt8) : ∃ x t, byteOut (Q c.toNat) c = x :: t ∧ (x = 92 ∨ Q x.toNat = true) := by
  unfold byteOut
  by_cases h : Q c.toNat = true
  · rw [if_pos h]
    exact ⟨c, [], rfl, .inr h⟩
  · rw [if_neg h]
    obtain ⟨t, ht⟩ := escOut_head c
    exact ⟨92, t, ht, .inl rfl⟩
/-- A byte with which no text begins. -/
theorem out_sees (Q : Nat → Bool) (b : Nat) (hb : Q b = false) (h92 : b ≠ 92) (c : UInt8) (r : List UInt8) : seesB (byteOut (Q c.toNat) c ++ r) b = false := by
  obtain ⟨x, t, e, hx⟩ := out_head Q c
  rw [e]
  show decide (x.toNat = b) = false
  rw [decide_eq_false_iff_not]
  rintro rfl
  rcases hx with rfl | hx
  · exact h92 rfl
  · rw [hb] at hx
    exact absurd hx (by decide)
theorem out_pos (Q : Nat → Bool) (c : UInt8) : 0 < (byteOut (Q c.toNat) c).length := by
  obtain ⟨x, t, e, _⟩ := out_head Q c
  rw [e]
  simp
theorem shown_plain : ∀ n, shownC n = true → plainC n = true := by
  intro n h
  unfold shownC at h
  simp only [Bool.and_eq_true] at h
  exact h.1
theorem elem_one (c : UInt8) (r : List UInt8) (h : seesB r 45 = false) : elemR (byteOut (shownC c.toNat) c ++ r) = .ok ((c.toNat, c.toNat), (byteOut (shownC c.toNat) c).length) := by
  unfold elemR
  rw [out_read plainC shownC shown_plain (by decide)]
  simp only [List.drop_left]
  rw [if_neg (by rw [h]; decide)]
theorem elem_two (c d : UInt8) (hcd : c.toNat ≤ d.toNat) (r : List UInt8) : elemR (byteOut (shownC c.toNat) c ++ (45 :: (byteOut (shownC d.toNat) d ++ r))) = .ok ((c.toNat, d.toNat), (byteOut (shownC c.toNat) c).length + 1 + (byteOut (shownC d.toNat) d).length) := by
  unfold elemR
  rw [out_read plainC shownC shown_plain (by decide)]
  simp only [List.drop_left]
  rw [if_pos (by rfl)]
  have e : (byteOut (shownC c.toNat) c ++ (45 :: (byteOut (shownC d.toNat) d ++ r))).drop ((byteOut (shownC c.toNat) c).length + 1) = byteOut (shownC d.toNat) d ++ r := by
    rw [← List.drop_drop, List.drop_left]
    rfl
  rw [e, out_read plainC shownC shown_plain (by decide)]
  simp only
  rw [if_neg (by omega)]
/-- The union of runs. -/
def orR (a : BitVec 256) (L : List (Nat × Nat)) : BitVec 256 := L.foldl (fun a q => a ||| ofP (rangeP q.1 q.2)) a
theorem classR_elem {f : Nat} {l : List UInt8} {a : BitVec 256} {p : Nat × Nat} {n : Nat} (h : seesB l 93 = false) (he : elemR l = .ok (p, n)) : classR (f + 1) l a = shiftR n (classR f (l.drop n) (a ||| ofP (rangeP p.1 p.2))) := by
  show (if seesB l 93 = true then _ else (match elemR l with | .error d => _ | .ok (p, n) => _)) = _
  rw [if_neg (by rw [h]; decide), he]
  simp only
  cases classR f (l.drop n) (a ||| ofP (rangeP p.1 p.2)) with
  | error d => rfl
  | ok x => obtain ⟨b, k⟩ := x; rfl
theorem range_pair (lo : Nat) (a : BitVec 256) : a ||| ofP (rangeP lo lo) ||| ofP (rangeP (lo + 1) (lo + 1)) = a ||| ofP (rangeP lo (lo + 1)) := by
  apply bv_ext
  intro b hb
  rw [BitVec.getLsbD_or, BitVec.getLsbD_or, BitVec.getLsbD_or, get_ofP _ _ hb, get_ofP _ _ hb, get_ofP _ _ hb, Bool.or_assoc]
  congr 1
  unfold rangeP
  rw [Bool.eq_iff_iff]
  simp
  omega
theorem rows_sees (b : Nat) (hb : shownC b = false) (h92 : b ≠ 92) : ∀ (L : List (Nat × Nat)) (r : List UInt8), seesB r b = false → seesB (rowsOut L ++ r) b = false
  | [], _, h => h
  | q :: L, r, _ => by
    have e : rowsOut (q :: L) ++ r = byteOut (shownC (UInt8.ofNat q.1).toNat) (UInt8.ofNat q.1) ++ (((if (UInt8.ofNat q.1).toNat + 1 < (UInt8.ofNat q.2).toNat then [45] else []) ++ (if (UInt8.ofNat q.1).toNat < (UInt8.ofNat q.2).toNat then byteOut (shownC (UInt8.ofNat q.2).toNat) (UInt8.ofNat q.2) else [])) ++ (rowsOut L ++ r)) := by
      show (rangeOut _ _ ++ rowsOut L) ++ r = _
      simp [rangeOut]
    rw [e]
    exact out_sees shownC b hb h92 _ _
theorem class_rows : ∀ (L : List (Nat × Nat)) (f : Nat) (a : BitVec 256) (r : List UInt8), (∀ q ∈ L, q.1 ≤ q.2 ∧ q.2 < 256) → (rowsOut L).length < f → classR f (rowsOut L ++ (93 :: r)) a = .ok (orR a L, (rowsOut L).length + 1)
  | [], 0, _, _, _, h => by simp at h
  | [], f + 1, a, r, _, _ => by
    rw [classR_end (by rfl)]
    rfl
  | q :: L, f, a, r, hL, hf => by
    obtain ⟨q1, q2⟩ := hL q (by simp)
    have e1 : (UInt8.ofNat q.1).toNat = q.1 := by simp; omega
    have e2 : (UInt8.ofNat q.2).toNat = q.2 := by simp; omega
    have ih := fun f a h => class_rows L f a r (fun x hx => hL x (List.mem_cons_of_mem _ hx)) h
    have hs45 : seesB (rowsOut L ++ (93 :: r)) 45 = false := rows_sees 45 (by decide) (by decide) L _ (by rfl)
    have er : rowsOut (q :: L) = rangeOut (UInt8.ofNat q.1) (UInt8.ofNat q.2) ++ rowsOut L := rfl
    have p1 := out_pos shownC (UInt8.ofNat q.1)
    have p2 := out_pos shownC (UInt8.ofNat q.2)
    have eo : orR a (q :: L) = orR (a ||| ofP (rangeP q.1 q.2)) L := rfl
    rw [er, List.length_append] at hf
    rw [er, eo, List.length_append]
    obtain ⟨f, rfl⟩ : ∃ g, f = g + 1 := ⟨f - 1, by omega⟩
    have hs93 : ∀ t, seesB (byteOut (shownC (UInt8.ofNat q.1).toNat) (UInt8.ofNat q.1) ++ t) 93 = false := fun t => out_sees shownC 93 (by decide) (by decide) _ _
    by_cases h1 : q.1 + 1 < q.2
    · have eq0 : rangeOut (UInt8.ofNat q.1) (UInt8.ofNat q.2) = byteOut (shownC (UInt8.ofNat q.1).toNat) (UInt8.ofNat q.1) ++ (45 :: byteOut (shownC (UInt8.ofNat q.2).toNat) (UInt8.ofNat q.2)) := by
        unfold rangeOut
        rw [e1, e2, if_pos h1, if_pos (by omega)]
        rfl
      have hl : (rangeOut (UInt8.ofNat q.1) (UInt8.ofNat q.2)).length = (byteOut (shownC (UInt8.ofNat q.1).toNat) (UInt8.ofNat q.1)).length + 1 + (byteOut (shownC (UInt8.ofNat q.2).toNat) (UInt8.ofNat q.2)).length := by
        rw [eq0]; simp; omega
      have et : rangeOut (UInt8.ofNat q.1) (UInt8.ofNat q.2) ++ rowsOut L ++ (93 :: r) = byteOut (shownC (UInt8.ofNat q.1).toNat) (UInt8.ofNat q.1) ++ (45 :: (byteOut (shownC (UInt8.ofNat q.2).toNat) (UInt8.ofNat q.2) ++ (rowsOut L ++ (93 :: r)))) := by
        rw [eq0]; simp
      have hel := elem_two (UInt8.ofNat q.1) (UInt8.ofNat q.2) (by omega) (rowsOut L ++ (93 :: r))
      rw [← hl] at hel
      have hdr : (rangeOut (UInt8.ofNat q.1) (UInt8.ofNat q.2) ++ rowsOut L ++ (93 :: r)).drop (rangeOut (UInt8.ofNat q.1) (UInt8.ofNat q.2)).length = rowsOut L ++ (93 :: r) := by
        rw [List.append_assoc, List.drop_left]
      rw [← et] at hel
      rw [classR_elem (by rw [et]; exact hs93 _) hel, hdr, e1, e2, ih f _ (by omega)]
      show Except.ok _ = Except.ok _
      rw [Nat.add_assoc]
    · by_cases h2 : q.1 < q.2
      · have hq : q.2 = q.1 + 1 := by omega
        have eq0 : rangeOut (UInt8.ofNat q.1) (UInt8.ofNat q.2) = byteOut (shownC (UInt8.ofNat q.1).toNat) (UInt8.ofNat q.1) ++ byteOut (shownC (UInt8.ofNat q.2).toNat) (UInt8.ofNat q.2) := by
          unfold rangeOut
          rw [e1, e2, if_neg h1, if_pos h2]
          rfl
        rw [eq0] at hf ⊢
        rw [List.length_append] at hf ⊢
        obtain ⟨f, rfl⟩ : ∃ g, f = g + 1 := ⟨f - 1, by omega⟩
        have hs2 : ∀ b, shownC b = false → b ≠ 92 → ∀ t, seesB (byteOut (shownC (UInt8.ofNat q.2).toNat) (UInt8.ofNat q.2) ++ t) b = false := fun b hb h92 t => out_sees shownC b hb h92 _ _
        rw [List.append_assoc, List.append_assoc, classR_elem (hs93 _) (elem_one _ _ (hs2 45 (by decide) (by decide) _)), List.drop_left, classR_elem (hs2 93 (by decide) (by decide) _) (elem_one _ _ hs45), List.drop_left, e1, e2, ih f _ (by omega)]
        rw [shiftR, shiftR]
        simp only
        rw [hq, range_pair q.1]
        congr 2
        omega
      · have hq : q.2 = q.1 := by omega
        have eq0 : rangeOut (UInt8.ofNat q.1) (UInt8.ofNat q.2) = byteOut (shownC (UInt8.ofNat q.1).toNat) (UInt8.ofNat q.1) := by
          unfold rangeOut
          rw [e1, e2, if_neg h1, if_neg h2]
          simp
        rw [eq0] at hf ⊢
        rw [List.append_assoc, classR_elem (hs93 _) (elem_one _ _ hs45), List.drop_left, e1, ih f _ (by omega), hq]
        show Except.ok _ = Except.ok _
        rw [Nat.add_assoc]
end Go.Proofs.YtkpfpegjapddfaaGreatDoor
set_option maxRecDepth 20000
namespace Go.Proofs.YtkpfpegjapddfaaGreatDoor
open Go.RowKit

theorem orR_get (b : Nat) (hb : b < 256) : ∀ (L : List (Nat × Nat)) (a : BitVec 256), (orR a L).getLsbD b = (a.getLsbD b || L.any (fun q => decide (q.1 ≤ b) && decide (b ≤ q.2)))
  | [], a => by simp [orR]
  | q :: L, a => by
    show (orR (a ||| ofP (rangeP q.1 q.2)) L).getLsbD b = _
    rw [orR_get b hb L, BitVec.getLsbD_or, get_ofP _ _ hb, List.any_cons, Bool.or_assoc]
    rfl
theorem runs_mem (s : BitVec 256) (b : Nat) (hb : b < 256) : ∀ (m p : Nat), 256 - p ≤ m → ((runs s p).any (fun q => decide (q.1 ≤ b) && decide (b ≤ q.2)) = (decide (p ≤ b) && s.getLsbD b))
  | 0, p, hm => by
    rw [runs_end (by have := fst_out (s := s) (b := p) (by omega); omega)]
    have : ¬ p ≤ b := by omega
    simp [this]
  | m + 1, p, hm => by
    rcases Nat.lt_or_ge (fst s p) 256 with hl | hl
    · obtain ⟨n1, n2, n3⟩ := fst_not hl
      rw [runs_more hl, List.any_cons, runs_mem s b hb m _ (by omega)]
      have hz : ∀ c, p ≤ c → c < fst s p → s.getLsbD c = false := by
        rcases fst_cases s p with ⟨_, _, _, h4⟩ | ⟨h1, _⟩
        · exact h4
        · omega
      have ho : ∀ c, fst s p ≤ c → c < fst (~~~s) (fst s p) → s.getLsbD c = true := by
        intro c h1 h2
        have : (~~~s).getLsbD c = false := by
          rcases fst_cases (~~~s) (fst s p) with ⟨_, _, _, h4⟩ | ⟨h3, h4⟩
          · exact h4 c h1 h2
          · exact h4 c h1 (by omega)
        rw [BitVec.getLsbD_not] at this
        have hc : c < 256 := by omega
        simpa [hc] using this
      by_cases c1 : b < p
      · have e1 : ¬ fst s p ≤ b := by omega
        have e2 : ¬ fst (~~~s) (fst s p) ≤ b := by omega
        have e3 : ¬ p ≤ b := by omega
        simp [e1, e2, e3]
      · by_cases c2 : b < fst s p
        · have e1 : ¬ fst s p ≤ b := by omega
          have e2 : ¬ fst (~~~s) (fst s p) ≤ b := by omega
          rw [hz b (by omega) c2]
          simp [e1, e2]
        · by_cases c3 : b < fst (~~~s) (fst s p)
          · rw [ho b (by omega) c3]
            have e1 : fst s p ≤ b := by omega
            have e2 : b ≤ fst (~~~s) (fst s p) - 1 := by omega
            have e3 : p ≤ b := by omega
            simp [e1, e2, e3]
          · have e1 : ¬ b ≤ fst (~~~s) (fst s p) - 1 := by omega
            have e2 : fst (~~~s) (fst s p) ≤ b := by omega
            have e3 : p ≤ b := by omega
            simp [e1, e2, e3]
    · rw [runs_end hl]
      have hz : ∀ c, p ≤ c → c < 256 → s.getLsbD c = false := by
        rcases fst_cases s p with ⟨_, h2, _, _⟩ | ⟨_, h4⟩
        · omega
        · exact h4
      by_cases c1 : p ≤ b
      · rw [hz b c1 hb]
        simp
      · simp [c1]
theorem runs_union (s : BitVec 256) : orR 0 (runs s 0) = s := by
  apply bv_ext
  intro b hb
  rw [orR_get b hb, runs_mem s b hb 256 0 (by omega)]
  simp
theorem bv_not_not (a : BitVec 256) : ~~~(~~~a) = a := by
  apply bv_ext
  intro b hb
  simp [hb]
theorem cnt_bits (s : BitVec 256) : ∀ k, k ≤ 256 → cnt s k = 0 → ∀ c, c < k → s.getLsbD c = false
  | 0, _, _, c, hc => by omega
  | k + 1, hk, h, c, hc => by
    rw [cnt] at h
    have h1 : cnt s k = 0 := by omega
    have h2 : (s.getLsbD k).toNat = 0 := by omega
    by_cases he : c = k
    · subst he
      cases hb : s.getLsbD c
      · rfl
      · rw [hb] at h2
        exact absurd h2 (by decide)
    · exact cnt_bits s k (by omega) h1 c (by omega)
theorem cnt_from (s : BitVec 256) (b : Nat) (hb : b < 256) (hbit : s.getLsbD b = true) : ∀ k, k ≤ 256 → b < k → cnt s k = 1 → ∀ c, c < k → c ≠ b → s.getLsbD c = false
  | 0, _, h, _, _, _, _ => by omega
  | k + 1, hk, h, h1, c, hc, hne => by
    rw [cnt] at h1
    by_cases hkb : k = b
    · subst hkb
      rw [hbit] at h1
      have h0 : cnt s k = 0 := by
        have : (true).toNat = 1 := rfl
        omega
      exact cnt_bits s k (by omega) h0 c (by omega)
    · cases hbk : s.getLsbD k
      · rw [hbk] at h1
        by_cases he : c = k
        · rw [he]; exact hbk
        · exact cnt_from s b hb hbit k (by omega) (by omega) (by simpa using h1) c (by omega) hne
      · rw [hbk] at h1
        have h0 : cnt s k = 0 := by
          have : (true).toNat = 1 := rfl
          omega
        have := cnt_bits s k (by omega) h0 b (by omega)
        rw [hbit] at this
        exact absurd this (by decide)
/-- A set of one byte. -/
theorem one_set (s : BitVec 256) (h : cnt s 256 = 1) : ofP (rangeP (fst s 0) (fst s 0)) = s := by
  have hf := fst_one s h
  have hbit : s.getLsbD (fst s 0) = true := by
    rcases fst_cases s 0 with ⟨_, _, h3, _⟩ | ⟨h1, _⟩
    · exact h3
    · omega
  apply bv_ext
  intro b hb
  rw [get_ofP _ _ hb]
  by_cases he : b = fst s 0
  · rw [he, hbit]
    simp [rangeP]
  · rw [cnt_from s _ hf hbit 256 (by omega) hf h b hb he]
    simp [rangeP]
    omega
theorem meta_of_plain (n : Nat) (h : plainB n = true) : n ≠ 91 ∧ n ≠ 46 ∧ n ≠ 92 ∧ n ≠ 40 ∧ n ≠ 126 ∧ n ≠ 124 ∧ n ≠ 38 ∧ n ≠ 41 := by
  refine ⟨?_, ?_, ?_, ?_, ?_, ?_, ?_, ?_⟩ <;> (rintro rfl; exact absurd h (by decide))
/-- The head of a set's text. -/
theorem class_head (s : BitVec 256) : ∃ x t, classOut s = x :: t ∧ x.toNat ≠ 40 ∧ x.toNat ≠ 126 ∧ x.toNat ≠ 124 ∧ x.toNat ≠ 38 ∧ x.toNat ≠ 41 ∧ x.toNat ≠ 42 ∧ x.toNat ≠ 43 ∧ x.toNat ≠ 63 ∧ x.toNat ≠ 123 := by
  unfold classOut
  by_cases h1 : cnt s 256 = 1
  · rw [if_pos h1]
    have hf := fst_one s h1
    have e1 : (UInt8.ofNat (fst s 0)).toNat = fst s 0 := by simp; omega
    obtain ⟨x, t, e, hx⟩ := out_head plainB (UInt8.ofNat (fst s 0))
    rw [e1] at e
    refine ⟨x, t, e, ?_⟩
    rcases hx with rfl | hx
    · decide
    · refine ⟨?_, ?_, ?_, ?_, ?_, ?_, ?_, ?_, ?_⟩ <;> (intro he; rw [he] at hx; exact absurd hx (by decide))
  · rw [if_neg h1]
    by_cases h2 : s = dotS
    · rw [if_pos h2]
      exact ⟨46, [], rfl, by decide⟩
    · rw [if_neg h2]
      unfold clsOut
      split
      · exact ⟨91, _, rfl, by decide⟩
      · exact ⟨91, _, rfl, by decide⟩
/-- A set's text is read as the set, whatever stands behind it. -/
theorem class_leaf (s : BitVec 256) (r : List UInt8) : leafR (classOut s ++ r) = .ok (setP s, (classOut s).length) := by
  unfold classOut
  by_cases h1 : cnt s 256 = 1
  · rw [if_pos h1]
    have hf := fst_one s h1
    have e1 : (UInt8.ofNat (fst s 0)).toNat = fst s 0 := by simp; omega
    have ho := out_read plainB plainB (fun _ h => h) (by decide) (UInt8.ofNat (fst s 0)) r
    have s1 := out_sees plainB 91 (by decide) (by decide) (UInt8.ofNat (fst s 0)) r
    have s2 := out_sees plainB 46 (by decide) (by decide) (UInt8.ofNat (fst s 0)) r
    rw [e1] at ho s1 s2
    unfold leafR
    rw [if_neg (by rw [s1]; decide), if_neg (by rw [s2]; decide), ho]
    simp only
    rw [one_set s h1]
  · rw [if_neg h1]
    by_cases h2 : s = dotS
    · rw [if_pos h2, h2]
      rfl
    · rw [if_neg h2]
      unfold clsOut
      have hle := runs_le s 256 0 (by omega)
      have hle2 := runs_le (~~~s) 256 0 (by omega)
      split
      · have e : [91, 94] ++ (rowsOut (runs (~~~s) 0) ++ [93]) ++ r = 91 :: 94 :: (rowsOut (runs (~~~s) 0) ++ (93 :: r)) := by simp
        rw [e]
        have hc : clsR (94 :: (rowsOut (runs (~~~s) 0) ++ (93 :: r))) = .ok (s, (rowsOut (runs (~~~s) 0)).length + 2) := by
          unfold clsR
          rw [if_pos (by rfl)]
          have hd : (94 :: (rowsOut (runs (~~~s) 0) ++ (93 :: r))).drop 1 = rowsOut (runs (~~~s) 0) ++ (93 :: r) := rfl
          rw [hd, class_rows _ _ 0 r hle2 (by simp; omega), runs_union]
          simp only
          rw [bv_not_not]
        unfold leafR
        rw [if_pos (by rfl)]
        have hd : (91 :: 94 :: (rowsOut (runs (~~~s) 0) ++ (93 :: r))).drop 1 = 94 :: (rowsOut (runs (~~~s) 0) ++ (93 :: r)) := rfl
        rw [hd, hc]
        simp
      · have e : [91] ++ (rowsOut (runs s 0) ++ [93]) ++ r = 91 :: (rowsOut (runs s 0) ++ (93 :: r)) := by simp
        rw [e]
        have hc : clsR (rowsOut (runs s 0) ++ (93 :: r)) = .ok (s, (rowsOut (runs s 0)).length + 1) := by
          unfold clsR
          rw [if_neg (by rw [rows_sees 94 (by decide) (by decide) _ _ (by rfl)]; decide), class_rows _ _ 0 r hle (by simp; omega), runs_union]
        unfold leafR
        rw [if_pos (by rfl)]
        have hd : (91 :: (rowsOut (runs s 0) ++ (93 :: r))).drop 1 = rowsOut (runs s 0) ++ (93 :: r) := rfl
        rw [hd, hc]
        simp
theorem seesB_ne {x : UInt8} {t : List UInt8} {b : Nat} (h : x.toNat ≠ b) : seesB (x :: t) b = false := by
  show decide _ = false
  exact decide_eq_false h
/-- One atom that is the whole text. -/
theorem pat_single {atom : List UInt8 → Except Nat (Pat × Nat)} {l : List UInt8} {p : Pat} (ha : atom l = .ok (p, l.length)) {x : UInt8} {t : List UInt8} (hl : l = x :: t) (h1 : x.toNat ≠ 126) (h2 : x.toNat ≠ 124) (h3 : x.toNat ≠ 38) (h4 : x.toNat ≠ 41) : patR atom l = .ok (p, l.length) := by
  have hn : notsN l = 0 := by
    rw [hl]
    simp [notsN, tilC, h1]
  have hi : itemR atom l = .ok (p, l.length) := by
    unfold itemR
    rw [hn]
    simp only [List.drop_zero, Nat.zero_add]
    rw [ha]
    simp only
    rw [List.drop_length]
    rfl
  have hs : stopB l = false := by
    rw [hl]
    unfold stopB
    rw [seesB_ne h2, seesB_ne h3, seesB_ne h4]
    rfl
  have hq : seqR (itemR atom) l = .ok (p, l.length) := by
    unfold seqR
    show jr 1 (if stopB l = true then _ else (match itemR atom l with | .error d => _ | .ok (p, n) => _)) = _
    rw [if_neg (by rw [hs]; decide), hi]
    simp only
    rw [List.drop_length]
    obtain ⟨n, hn⟩ : ∃ n, l.length = n + 1 := ⟨t.length, by rw [hl]; rfl⟩
    rw [hn]
    rfl
  have hr : ∀ part : List UInt8 → Except Nat (Pat × Nat), ∀ op sep, part l = .ok (p, l.length) → rowR part op sep l = .ok (p, l.length) := by
    intro part op sep h
    unfold rowR
    rw [h]
    simp only
    rw [List.drop_length]
    rfl
  unfold patR
  exact hr _ _ _ (hr _ _ _ hq)
theorem setP_fit (s : BitVec 256) : (setP s).fit 1 = true := by
  show (decide (1 ≤ 64) && (okN 0 0 0 0 && true)) = true
  decide
/-- A set's text is parsed as that set. -/
theorem class_parse (s : BitVec 256) : wholeR ⟨(classOut s).toArray⟩ = .ok (setP s) := by
  have hr : rest ⟨(classOut s).toArray⟩ 0 = classOut s := by simp [rest]
  obtain ⟨x, t, e, h40, h1, h2, h3, h4, _⟩ := class_head s
  have hleaf := class_leaf s []
  rw [List.append_nil] at hleaf
  have hat : atomR 32 (classOut s) = .ok (setP s, (classOut s).length) := by
    show (if seesB (classOut s) 40 = true then _ else leafR (classOut s)) = _
    rw [if_neg (by rw [e, seesB_ne h40]; decide)]
    exact hleaf
  unfold wholeR
  rw [hr, pat_single hat e h1 h2 h3 h4]
  simp only
  rw [if_pos (toArr _).symm, if_pos (setP_fit s)]
end Go.Proofs.YtkpfpegjapddfaaGreatDoor
set_option maxRecDepth 20000
namespace Go.Proofs.YtkpfpegjapddfaaGreatDoor
open Go.RowKit

/-- One byte. -/
def sb (b : Nat) : BitVec 256 := ofP (rangeP b b)
def p1 : Pat := .mk 2 0 0 0 [setP (sb 97), .mk 3 0 0 (-1) [setP (sb 98)]]
def sAC : BitVec 256 := ~~~(0 ||| ofP (rangeP 97 99))
def p3 : Pat := .mk 1 0 0 0 [.mk 5 0 0 0 [.mk 4 0 0 0 [.mk 1 0 0 0 [setP sAC, setP (sb 10)], setP dotS]], setP (sb 120)]
theorem whole_1 : wholeR ⟨#[97, 124, 98, 42]⟩ = .ok p1 := by kernel_rfl
theorem whole_2 : wholeR ⟨#[97, 123, 51, 44, 50, 125]⟩ = .error 2 := by kernel_rfl
theorem whole_3 : wholeR ⟨#[126, 40, 91, 94, 97, 45, 99, 93, 92, 110, 38, 46, 41, 120]⟩ = .ok p3 := by kernel_rfl
theorem sb_get (b k : Nat) (hk : k < 256) : (sb b).getLsbD k = decide (k = b) := by
  unfold sb
  rw [get_ofP _ _ hk]
  unfold rangeP
  rw [Bool.eq_iff_iff]
  simp
  omega
theorem sb_cnt (b : Nat) : ∀ k, k ≤ 256 → cnt (sb b) k = if b < k then 1 else 0
  | 0, _ => rfl
  | k + 1, hk => by
    rw [cnt, sb_cnt b k (by omega), sb_get b k (by omega)]
    by_cases h1 : k = b
    · subst h1
      simp
    · by_cases h2 : b < k
      · rw [if_pos h2, if_pos (by omega)]
        simp [h1]
      · rw [if_neg h2, if_neg (by omega)]
        simp [h1]
theorem sb_class (b : Nat) (hb : b < 256) : classOut (sb b) = byteOut (plainB b) (UInt8.ofNat b) := by
  have hf : fst (sb b) 0 = b := fst_eq (Nat.zero_le _) hb (by rw [sb_get b b hb]; simp) (fun c _ hc => by rw [sb_get b c (by omega)]; simp; omega)
  unfold classOut
  rw [sb_cnt b 256 (by omega), if_pos (by rw [if_pos hb]), hf]
theorem dot_class : classOut dotS = [46] := by
  unfold classOut
  rw [if_neg (by have h : cnt dotS 256 = 255 := by kernel_rfl
                 omega), if_pos rfl]
theorem ac_runs : runs (ofP (rangeP 97 99)) 0 = [(97, 99)] := by
  have hg : ∀ k, k < 256 → (ofP (rangeP 97 99)).getLsbD k = (decide (97 ≤ k) && decide (k ≤ 99)) := fun k hk => by rw [get_ofP _ _ hk]; rfl
  have h1 : fst (ofP (rangeP 97 99)) 0 = 97 := fst_eq (Nat.zero_le _) (by omega) (by rw [hg 97 (by omega)]; rfl) (fun c _ hc => by rw [hg c (by omega)]; simp; omega)
  have h2 : fst (~~~(ofP (rangeP 97 99))) 97 = 100 := fst_eq (by omega) (by omega) (by rw [BitVec.getLsbD_not, hg 100 (by omega)]; rfl) (fun c h3 hc => by rw [BitVec.getLsbD_not, hg c (by omega)]; simp; omega)
  have h3 : fst (ofP (rangeP 97 99)) 100 = 256 := fst_none (fun c h3 hc => by rw [hg c (by omega)]; simp; omega)
  rw [runs_more (by omega), h1, h2, runs_end (by omega)]
theorem ac_class : classOut sAC = [91, 94, 97, 45, 99, 93] := by
  have hc : cnt sAC 256 = 253 := by kernel_rfl
  have hd : sAC ≠ dotS := fun h => by
    have h1 : cnt dotS 256 = 255 := by kernel_rfl
    rw [h, h1] at hc
    exact absurd hc (by decide)
  have hn : ~~~sAC = ofP (rangeP 97 99) := by
    unfold sAC
    rw [bv_not_not]
    simp
  unfold classOut clsOut
  rw [if_neg (by omega), if_neg hd, if_pos (by omega), hn, ac_runs]
  decide
theorem show_1 : p1.shw.2 = [97, 124, 98, 42] := by
  simp only [p1, setP, Pat.shw, Pat.shws, List.length_cons, List.length_nil]
  simp only [textOf, levOf, isL, sb_class 97 (by omega), sb_class 98 (by omega)]
  decide
theorem show_3 : p3.shw.2 = [126, 40, 91, 94, 97, 45, 99, 93, 92, 110, 38, 46, 41, 120] := by
  simp only [p3, setP, Pat.shw, Pat.shws, List.length_cons, List.length_nil]
  simp only [textOf, levOf, isL, sb_class 10 (by omega), sb_class 120 (by omega), ac_class, dot_class]
  decide
end Go.Proofs.YtkpfpegjapddfaaGreatDoor
set_option maxRecDepth 20000
namespace Go.Proofs.YtkpfpegjapddfaaGreatDoor
open Go.RowKit

theorem below_one (w : World) (o : Obj) : Below w.heap.size w (w.alloc o) := (Below.refl _ _).alloc (Nat.le_refl _) _
theorem parse_ok (s : ByteArray) (p : Pat) (h : wholeR s = .ok p) (hs : s.size ≤ 20000) (w : World) (hL : Lay w) :
    Calls Tryz.prog 14 #[.string s] w fun e w' => ∃ a c, e = .returned (.tuple #[(.agg #[.int .i64 p.op, .int .u64 (wd p.set 0), .int .u64 (wd p.set 1), .int .u64 (wd p.set 2), .int .u64 (wd p.set 3), .int .i64 p.lo, .int .i64 p.hi, .slice a p.kids.length c]), .int .i64 0, .int .i64 0]) ∧ Kids w' p.kids (.slice a p.kids.length c) ∧ Below w.heap.size w w' := by
  refine (parse_all s hs w hL).mono ?_
  intro e w' hp
  unfold ParsePost at hp
  rw [h] at hp
  obtain ⟨a, c, he, hk, hb⟩ := hp
  exact ⟨a, c, he, hk.kids, hb⟩
theorem parse_bad (s : ByteArray) (d : Nat) (h : wholeR s = .error d) (hs : s.size ≤ 20000) (w : World) (hL : Lay w) :
    Calls Tryz.prog 14 #[.string s] w fun e w' => e = .returned (.tuple #[.agg #[.int .i64 0, .int .u64 0, .int .u64 0, .int .u64 0, .int .u64 0, .int .i64 0, .int .i64 0, .slice none 0 0], .int .i64 30, .int .i64 d]) ∧ Below w.heap.size w w' := by
  refine (parse_all s hs w hL).mono ?_
  intro e w' hp
  unfold ParsePost at hp
  rw [h] at hp
  exact hp
theorem show_lit (p : Pat) (l : List UInt8) (hl : p.shw.2 = l) (a : Option Addr) (c : Nat) (w : World) (hT : Tab w) (hk : Kids w p.kids (.slice a p.kids.length c)) (hsz : p.size < 99998) (hsm : p.sm = true) (hlen : l.length ≤ 99999999) :
    Calls Tryz.prog 10 #[(.agg #[.int .i64 p.op, .int .u64 (wd p.set 0), .int .u64 (wd p.set 1), .int .u64 (wd p.set 2), .int .u64 (wd p.set 3), .int .i64 p.lo, .int .i64 p.hi, .slice a p.kids.length c])] w fun e w' => e = .returned (.string ⟨l.toArray⟩) ∧ Below w.heap.size w w' := by
  subst hl
  exact show_any p a c w hT hk hsz hsm hlen
theorem p1_kid {w : World} {a : Option Addr} {c : Nat} (h : Kids w p1.kids (.slice a p1.kids.length c)) : ∃ b o, a = some ⟨b, o, none⟩ ∧ w.cell? ⟨b, o + 8, none⟩ = some (.int .i64 3) := by
  obtain ⟨b, o, e, hn⟩ := kidAt h 1 (by decide)
  obtain ⟨ks, _, h0, _⟩ := hn.cells
  exact ⟨b, o, e, h0⟩
set_option maxHeartbeats 4000000 in
theorem awake_any (w : World) (hL : Lay w) : Calls Tryz.prog 7 #[] w fun e w' => e = .returned (.bool true) ∧ Below w.heap.size w w' := by
  have q1 : (p1.op == 2) = true := by decide
  have q2 : ((p1.kids.length : Int) == 2) = true := by decide
  have q3 : 1 < p1.kids.length := by decide
  go_enter Tryz.func7, Tryz.ntmps7
  go_wp2_with (first
    | (go_at_call 14; (with_reducible refine (parse_ok ⟨#[97, 124, 98, 42]⟩ p1 whole_1 (by decide) _ hL).mono ?_); rintro e w1 ⟨a1, c1, rfl, hk1, hb1⟩; have hL1 := hL.below hb1; obtain ⟨kb, ko, rfl, hkc⟩ := p1_kid hk1; have hx1 := Box.new w1 #[.int .i64 p1.op, .int .u64 (wd p1.set 0), .int .u64 (wd p1.set 1), .int .u64 (wd p1.set 2), .int .u64 (wd p1.set 3), .int .i64 p1.lo, .int .i64 p1.hi, .slice (some ⟨kb, ko, none⟩) p1.kids.length c1] rfl)
    | (go_at_call 14; (with_reducible refine (parse_bad ⟨#[97, 123, 51, 44, 50, 125]⟩ 2 whole_2 (by decide) _ (hL1.below (below_one _ _))).mono ?_); rintro e w2 ⟨rfl, hb2⟩; have hL2 := (hL1.below (below_one _ _)).below hb2; have hx2 := hx1.below hb2)
    | (go_at_call 14; (with_reducible refine (parse_ok ⟨#[126, 40, 91, 94, 97, 45, 99, 93, 92, 110, 38, 46, 41, 120]⟩ p3 whole_3 (by decide) _ (hL2.below (below_one _ _))).mono ?_); rintro e w3 ⟨a3, c3, rfl, hk3, hb3⟩; have hL3 := (hL2.below (below_one _ _)).below hb3; have hx4 := ((hx2.alloc _).below hb3).alloc (.cells #[.int .i64 p3.op, .int .u64 (wd p3.set 0), .int .u64 (wd p3.set 1), .int .u64 (wd p3.set 2), .int .u64 (wd p3.set 3), .int .i64 p3.lo, .int .i64 p3.hi, .slice a3 p3.kids.length c3] 28); obtain ⟨d0, d1, d2, d3, d4, d5, d6, d7⟩ := hx4.cells; have hB := below_step (below_step (below_step (below_step (below_one w1 _) hb2) (below_one w2 _)) hb3) (below_one w3 (.cells #[.int .i64 p3.op, .int .u64 (wd p3.set 0), .int .u64 (wd p3.set 1), .int .u64 (wd p3.set 2), .int .u64 (wd p3.set 3), .int .i64 p3.lo, .int .i64 p3.hi, .slice a3 p3.kids.length c3] 28)); have hkc4 := cell_below hB hkc; have hK1 := hk1.below hB; have hK3 := hk3.below (below_one w3 (.cells #[.int .i64 p3.op, .int .u64 (wd p3.set 0), .int .u64 (wd p3.set 1), .int .u64 (wd p3.set 2), .int .u64 (wd p3.set 3), .int .i64 p3.lo, .int .i64 p3.hi, .slice a3 p3.kids.length c3] 28)); have hT4 := (hL3.below (below_one w3 (.cells #[.int .i64 p3.op, .int .u64 (wd p3.set 0), .int .u64 (wd p3.set 1), .int .u64 (wd p3.set 2), .int .u64 (wd p3.set 3), .int .i64 p3.lo, .int .i64 p3.hi, .slice a3 p3.kids.length c3] 28))).1; have hxm := Box.new w3 #[.int .i64 p3.op, .int .u64 (wd p3.set 0), .int .u64 (wd p3.set 1), .int .u64 (wd p3.set 2), .int .u64 (wd p3.set 3), .int .i64 p3.lo, .int .i64 p3.hi, .slice a3 p3.kids.length c3] rfl)
    | (go_at_call 10; (with_reducible refine (show_lit p1 [97, 124, 98, 42] show_1 _ _ _ hT4 hK1 (by decide) (by decide) (by decide)).mono ?_); rintro e w5 ⟨rfl, hb5⟩; have hx5 := hxm.below hb5; obtain ⟨e0, e1, e2, e3, e4, e5, e6, e7⟩ := hx5.cells; have hT5 := hT4.below hb5; have hK5 := hK3.below hb5)
    | (go_at_call 10; (with_reducible refine (show_lit p3 [126, 40, 91, 94, 97, 45, 99, 93, 92, 110, 38, 46, 41, 120] show_3 _ _ _ hT5 hK5 (by decide) (by decide) (by decide)).mono ?_); rintro e w6 ⟨rfl, hb6⟩)
    | fail)
  go_ret
  exact ⟨rfl, below_step (below_step (below_step hb1 hB) hb5) hb6⟩
end Go.Proofs.YtkpfpegjapddfaaGreatDoor
set_option maxRecDepth 20000
namespace Go.Proofs.YtkpfpegjapddfaaGreatDoor
open Go.RowKit

theorem parse_class (s : BitVec 256) (w : World) (hL : Lay w) :
    Calls Tryz.prog 14 #[.string ⟨(classOut s).toArray⟩] w fun e w' => ∃ a c, e = .returned (.tuple #[.agg #[.int .i64 0, .int .u64 (wd s 0), .int .u64 (wd s 1), .int .u64 (wd s 2), .int .u64 (wd s 3), .int .i64 0, .int .i64 0, .slice a 0 c], .int .i64 0, .int .i64 0]) ∧ Below w.heap.size w w' := by
  refine (parse_ok _ (setP s) (class_parse s) (by have := classOut_len s; rw [toArr]; omega) w hL).mono ?_
  rintro e w' ⟨a, c, rfl, _, hb⟩
  exact ⟨a, c, rfl, hb⟩
set_option maxHeartbeats 1000000 in
theorem classes_any (s : BitVec 256) (w : World) (hL : Lay w) : Calls Tryz.prog 5 #[(.agg #[.int .u64 (wd (s) 0), .int .u64 (wd (s) 1), .int .u64 (wd (s) 2), .int .u64 (wd (s) 3)])] w fun e w' => e = .returned (.bool true) ∧ Below w.heap.size w w' := by
  have hx0 := SetAt.new w s
  have b0 : Below w.heap.size w (w.alloc (.cells #[.int .u64 (wd s 0), .int .u64 (wd s 1), .int .u64 (wd s 2), .int .u64 (wd s 3)] 24)) := below_one _ _
  have hq := eq_set_same s
  go_enter Tryz.func5, Tryz.ntmps5
  go_wp2_with (first
    | (go_at_call 7; (with_reducible refine (awake_any _ (hL.below b0)).mono ?_); rintro e w1 ⟨rfl, hb1⟩; have hx1 := hx0.grown hb1; obtain ⟨c0, c1, c2, c3⟩ := hx1.cells; have hL1 := (hL.below b0).below hb1; have hT1 := hL1.1)
    | (go_at_call 12; (with_reducible refine (class_text s _ hT1).mono ?_); rintro e w2 ⟨rfl, hb2⟩; have hx2 := hx1.grown hb2; have hL2 := hL1.below hb2)
    | (go_at_call 14; (with_reducible refine (parse_class s _ hL2).mono ?_); rintro e w3 ⟨a, c, rfl, hb3⟩; have hx3 := (hx2.grown hb3).alloc (.cells #[.int .i64 0, .int .u64 (wd s 0), .int .u64 (wd s 1), .int .u64 (wd s 2), .int .u64 (wd s 3), .int .i64 0, .int .i64 0, .slice a 0 c] 28); obtain ⟨d0, d1, d2, d3⟩ := hx3.cells; have hbx := Box.new w3 #[.int .i64 0, .int .u64 (wd s 0), .int .u64 (wd s 1), .int .u64 (wd s 2), .int .u64 (wd s 3), .int .i64 0, .int .i64 0, .slice a 0 c] rfl; obtain ⟨e0, e1, e2, e3, e4, e5, e6, e7⟩ := hbx.cells)
    | fail)
  go_ret
  exact ⟨rfl, below_step (below_step (below_step (below_step b0 hb1) hb2) hb3) (below_one w3 _)⟩
end Go.Proofs.YtkpfpegjapddfaaGreatDoor
