/- Words of a text: the pure model, over lists of bytes. -/
import Derived.Test.YtplgnbedcjanhaaXN
set_option maxRecDepth 100000
namespace Go.Proofs.Ytplgnbedcjanhaa
open Go.RowKit

/-- A letter, or _; a digit; what goes on with a name. -/
def isLet (b : Nat) : Bool := (decide (97 ≤ (b : Int)) && decide ((b : Int) ≤ 122)) || ((decide (65 ≤ (b : Int)) && decide ((b : Int) ≤ 90)) || decide ((b : Int) = 95))
def isDig (b : Nat) : Bool := decide (48 ≤ (b : Int)) && decide ((b : Int) ≤ 57)
def isNam (b : Nat) : Bool := isLet b || isDig b
/-- How far the bytes of a sort go. -/
def runN (p : Nat → Bool) : List Nat → Nat
  | [] => 0
  | b :: l => if p b = true then runN p l + 1 else 0
theorem runN_le (p : Nat → Bool) : ∀ l, runN p l ≤ l.length
  | [] => Nat.le_refl _
  | b :: l => by
    rw [runN]
    have := runN_le p l
    split
    · simp only [List.length_cons]; omega
    · exact Nat.zero_le _
theorem runN_all (p : Nat → Bool) : ∀ (l : List Nat) (k : Nat), k < runN p l → ∃ h : k < l.length, p l[k] = true
  | [], k, h => by simp [runN] at h
  | b :: l, k, h => by
    rw [runN] at h
    split at h
    · rename_i hb
      cases k with
      | zero => exact ⟨by simp, hb⟩
      | succ k =>
        obtain ⟨h1, h2⟩ := runN_all p l k (by omega)
        exact ⟨by simp; omega, by simpa using h2⟩
    · omega
theorem runN_end (p : Nat → Bool) : ∀ (l : List Nat) (h : runN p l < l.length), p l[runN p l] = false
  | [], h => by simp at h
  | b :: l, h => by
    by_cases hb : p b = true
    · have e : runN p (b :: l) = runN p l + 1 := by rw [runN, if_pos hb]
      have h2 : runN p l < l.length := by rw [e] at h; simpa using h
      have := runN_end p l h2
      simp only [e, List.getElem_cons_succ]; exact this
    · have e : runN p (b :: l) = 0 := by rw [runN, if_neg hb]
      simp only [e, List.getElem_cons_zero]
      simpa using hb
/-- A loop that has come to a place, all ahead being of the sort, stops there just if that is the end. -/
theorem runN_stop {p : Nat → Bool} {l : List Nat} {k : Nat} (h : k ≤ runN p l) (hk : k = l.length ∨ ∃ h : k < l.length, p l[k] = false) : runN p l = k := by
  rcases Nat.lt_or_ge k (runN p l) with h1 | h1
  · obtain ⟨h2, h3⟩ := runN_all p l k h1
    rcases hk with rfl | ⟨h4, h5⟩
    · omega
    · rw [h3] at h5; cases h5
  · omega
theorem runN_more {p : Nat → Bool} {l : List Nat} {k : Nat} (h : k ≤ runN p l) (hk : k < l.length) (hp : p l[k] = true) : k + 1 ≤ runN p l := by
  rcases Nat.lt_or_ge k (runN p l) with h1 | h1
  · exact h1
  · have e : runN p l = k := by omega
    have h2 := runN_end p l (by omega)
    simp only [e] at h2
    rw [h2] at hp; cases hp
/-- Behind a pattern's closing slash; 0: there is none. -/
def slN : Bool → Nat → List Nat → Nat
  | _, _, [] => 0
  | e, k, b :: l => if b = 10 ∨ b = 13 then 0 else if e = true then slN false (k + 1) l else if b = 92 then slN true (k + 1) l else if b = 47 then k + 1 else slN false (k + 1) l
theorem slN_le : ∀ (e : Bool) (k : Nat) (l : List Nat), slN e k l ≤ k + l.length
  | _, _, [] => Nat.zero_le _
  | e, k, b :: l => by
    have h1 := slN_le false (k + 1) l
    have h2 := slN_le true (k + 1) l
    rw [slN]
    simp only [List.length_cons]
    repeat' split
    all_goals omega
theorem slN_gt : ∀ (e : Bool) (k : Nat) (l : List Nat), slN e k l ≠ 0 → k < slN e k l
  | _, _, [], h => absurd rfl h
  | e, k, b :: l, h => by
    have h1 := slN_gt false (k + 1) l
    have h2 := slN_gt true (k + 1) l
    rw [slN] at h ⊢
    repeat' split
    all_goals simp_all
    all_goals omega
theorem slN_shift (d : Nat) : ∀ (e : Bool) (k : Nat) (l : List Nat), slN e (k + d) l = if slN e k l = 0 then 0 else slN e k l + d
  | _, _, [] => by simp [slN]
  | e, k, b :: l => by
    have h1 := slN_shift d false (k + 1) l
    have h2 := slN_shift d true (k + 1) l
    rw [show k + 1 + d = k + d + 1 from by omega] at h1 h2
    simp only [slN]
    by_cases ha : b = 10 ∨ b = 13
    · simp [if_pos ha]
    · simp only [if_neg ha]
      by_cases hb : e = true
      · simp only [if_pos hb]; exact h1
      · simp only [if_neg hb]
        by_cases hc : b = 92
        · simp only [if_pos hc]; exact h2
        · simp only [if_neg hc]
          by_cases hd : b = 47
          · simp only [if_pos hd]
            rw [if_neg (by omega)]; omega
          · simp only [if_neg hd]; exact h1
/-- What stands between words. -/
def isSp (b : Nat) : Bool := decide (b = 32) || (decide (b = 9) || (decide (b = 13) || decide (b = 10)))
def skN : Bool → List Nat → Nat
  | _, [] => 0
  | false, b :: l => if isSp b = true then skN false l + 1 else if b = 35 then skN true l + 1 else 0
  | true, b :: l => if b = 10 then skN false l + 1 else skN true l + 1
theorem skN_le : ∀ (e : Bool) (l : List Nat), skN e l ≤ l.length
  | _, [] => by simp [skN]
  | e, b :: l => by
    have h1 := skN_le false l
    have h2 := skN_le true l
    cases e <;> simp only [skN, List.length_cons]
    all_goals repeat' split
    all_goals omega
/-- How far it is to the end of a comment. -/
def nlN : List Nat → Nat
  | [] => 0
  | b :: l => if b = 10 then 0 else nlN l + 1
theorem nlN_le : ∀ l, nlN l ≤ l.length
  | [] => Nat.le_refl _
  | b :: l => by
    have := nlN_le l
    rw [nlN]
    simp only [List.length_cons]
    split <;> omega
theorem skN_true : ∀ l, skN true l = nlN l + skN false (l.drop (nlN l))
  | [] => rfl
  | b :: l => by
    rw [skN, nlN]
    by_cases h : b = 10
    · subst h
      rw [if_pos rfl, if_pos rfl, List.drop_zero, skN, if_pos (by decide)]; omega
    · rw [if_neg h, if_neg h, List.drop_succ_cons, skN_true l]; omega
theorem skN_hash {l : List Nat} (h : 0 < l.length) (hb : l[0] = 35) : skN false l = nlN l + skN false (l.drop (nlN l)) := by
  cases l with
  | nil => simp at h
  | cons b l =>
    simp only [List.getElem_cons_zero] at hb
    subst hb
    rw [skN, if_neg (by decide), if_pos rfl, nlN, if_neg (by decide), List.drop_succ_cons, skN_true l]; omega
theorem skN_space {l : List Nat} (h : 0 < l.length) (hb : isSp l[0] = true) : skN false l = 1 + skN false (l.drop 1) := by
  cases l with
  | nil => simp at h
  | cons b l =>
    simp only [List.getElem_cons_zero] at hb
    rw [skN, if_pos hb]
    simp only [List.drop_succ_cons, List.drop_zero]; omega
theorem skN_none {l : List Nat} (h : 0 < l.length) (hb : isSp l[0] = false) (h35 : l[0] ≠ 35) : skN false l = 0 := by
  cases l with
  | nil => simp at h
  | cons b l =>
    simp only [List.getElem_cons_zero] at hb h35
    rw [skN, if_neg (by rw [hb]; decide), if_neg h35]
theorem skN_nil : skN false [] = 0 := rfl
theorem nlN_pos {l : List Nat} (h : 0 < l.length) (hb : l[0] = 35) : 0 < nlN l := by
  cases l with
  | nil => simp at h
  | cons b l =>
    simp only [List.getElem_cons_zero] at hb
    subst hb
    rw [nlN, if_neg (by decide)]; omega
/-- The word that a text begins with: its kind, its length. -/
def capN (m n : Nat) : Nat := if m < n then 0 else n
def fstW : List Nat → Nat × Nat
  | [] => (0, 0)
  | b :: l => if isLet b = true then (0, capN 32 (runN isNam (b :: l))) else if isDig b = true then (1, capN 4 (runN isDig (b :: l))) else if b = 47 then (2, slN false 1 l) else if b = 58 ∨ b = 124 ∨ b = 59 then (3, 1) else (0, 0)
theorem capN_le (m n : Nat) : capN m n ≤ n := by unfold capN; split <;> omega
theorem fstW_le (l : List Nat) : (fstW l).2 ≤ l.length := by
  cases l with
  | nil => exact Nat.le_refl _
  | cons b l =>
    have h1 := runN_le isNam (b :: l)
    have h2 := runN_le isDig (b :: l)
    have h3 := slN_le false 1 l
    have h4 := capN_le 32 (runN isNam (b :: l))
    have h5 := capN_le 4 (runN isDig (b :: l))
    unfold fstW
    simp only [List.length_cons] at *
    repeat' split
    all_goals simp only []
    all_goals omega
/-- A word. -/
structure Wd where
  kind : Int
  txt : List Nat
  pos : Nat
/-- A word's Text. -/
def insT (kind : Nat) (l : List Nat) : List Nat := if kind = 2 then (l.take (l.length - 1)).drop 1 else l
/-- The words from a place on, and where something stands that is none. -/
def wds (l : List Nat) (p : Nat) : List Wd × Option Nat :=
  if _h : p < l.length then
    if _hz : (fstW (l.drop p)).2 = 0 then ([], some p)
    else
      (⟨(fstW (l.drop p)).1, insT (fstW (l.drop p)).1 ((l.drop p).take (fstW (l.drop p)).2), p⟩ :: (wds l (p + (fstW (l.drop p)).2 + skN false (l.drop (p + (fstW (l.drop p)).2)))).1, (wds l (p + (fstW (l.drop p)).2 + skN false (l.drop (p + (fstW (l.drop p)).2)))).2)
  else ([], none)
termination_by l.length - p
decreasing_by all_goals omega
def allW (l : List Nat) : List Wd × Option Nat := wds l (skN false l)
theorem wds_end {l : List Nat} {p : Nat} (h : ¬ p < l.length) : wds l p = ([], none) := by rw [wds, dif_neg h]
theorem wds_bad {l : List Nat} {p : Nat} (h : p < l.length) (hz : (fstW (l.drop p)).2 = 0) : wds l p = ([], some p) := by rw [wds, dif_pos h, dif_pos hz]
theorem wds_more {l : List Nat} {p k n q : Nat} (h : p < l.length) (hf : fstW (l.drop p) = (k, n)) (hn : n ≠ 0) (hq : p + n + skN false (l.drop (p + n)) = q) : wds l p = (⟨k, insT k ((l.drop p).take n), p⟩ :: (wds l q).1, (wds l q).2) := by
  rw [wds, dif_pos h]
  simp only [hf]
  rw [dif_neg hn, hq]
theorem wds_some {l : List Nat} {e : Nat} : ∀ {n p : Nat}, l.length - p ≤ n → (wds l p).2 = some e → e < l.length ∧ p ≤ e
  | 0, p, hn, h => by
    rw [wds_end (by omega)] at h; cases h
  | n + 1, p, hn, h => by
    by_cases hp : p < l.length
    · by_cases hz : (fstW (l.drop p)).2 = 0
      · rw [wds_bad hp hz] at h
        cases h
        exact ⟨hp, Nat.le_refl _⟩
      · rw [wds_more hp (k := (fstW (l.drop p)).1) (n := (fstW (l.drop p)).2) rfl hz rfl] at h
        have := wds_some (n := n) (by omega) h
        exact ⟨this.1, by omega⟩
    · rw [wds_end hp] at h; cases h
theorem wds_len {l : List Nat} : ∀ {n p : Nat}, l.length - p ≤ n → (wds l p).1.length ≤ l.length - p
  | 0, p, hn => by rw [wds_end (by omega)]; simp
  | n + 1, p, hn => by
    by_cases hp : p < l.length
    · by_cases hz : (fstW (l.drop p)).2 = 0
      · rw [wds_bad hp hz]; simp
      · rw [wds_more hp (k := (fstW (l.drop p)).1) (n := (fstW (l.drop p)).2) rfl hz rfl]
        have := wds_len (l := l) (n := n) (p := p + (fstW (l.drop p)).2 + skN false (l.drop (p + (fstW (l.drop p)).2))) (by omega)
        simp only [List.length_cons]
        omega
    · rw [wds_end hp]; simp
/-- Whether the whole of a text is a name. -/
def isNameW (l : List Nat) : Bool := decide ((fstW l).1 = 0) && (decide (0 < (fstW l).2) && decide ((fstW l).2 = l.length))
/-- A word's bytes in a text. -/
def outW (w : Wd) : List Nat := if w.kind = 2 then 47 :: (w.txt ++ [47]) else w.txt
/-- Words as a text. -/
def joinL : List Wd → List Nat
  | [] => []
  | w :: ws => ws.foldl (fun o v => o ++ 32 :: outW v) (outW w)
theorem joinL_snoc (ws : List Wd) (v : Wd) : joinL (ws ++ [v]) = if ws = [] then outW v else joinL ws ++ 32 :: outW v := by
  cases ws with
  | nil => rfl
  | cons w ws => simp [joinL]
end Go.Proofs.Ytplgnbedcjanhaa
