/- Contract: the reference's All. -/
import Derived.Test.YtplgnbedcjanhaaBh
import Derived.Test.YtplgnbedcjanhaaBm
import Derived.Test.YtplgnbedcjanhaaBk
set_option maxRecDepth 100000
namespace Go.Proofs.Ytplgnbedcjanhaa
open Go.RowKit

theorem infoW : (Try.prog.info? 45).map (fun i => (i.zero, i.size, i.bytes)) = some (some (.agg #[.int .i64 0, .string ⟨#[]⟩, .int .i64 0]), 3, 32) := by kernel_rfl
theorem ext_size {s : ByteArray} {a b : Nat} (h1 : b ≤ s.size) : (s.extract a b).size = b - a := by
  rw [← bytesOf_len, ext_bytes, List.length_drop, List.length_take, bytesOf_len]; omega
theorem ext_part {s : ByteArray} {l : List Nat} (hs : bytesOf s = l) {k n e : Nat} (he : k + n = e) : s.extract k e = strOf ((l.drop k).take n) := by
  rw [ext_str, hs, ← he, List.take_drop]
theorem ext_in {s : ByteArray} {l : List Nat} (hs : bytesOf s = l) {k n e : Nat} (hn : 2 ≤ n) (he : k + n = e + 1) (hl : e < l.length) : s.extract (k + 1) e = strOf (insT 2 ((l.drop k).take n)) := by
  rw [ext_str, hs, insT, if_pos rfl]
  congr 1
  have h1 : ((l.drop k).take n).length = n := by rw [List.length_take, List.length_drop]; omega
  rw [h1, List.take_take, Nat.min_eq_left (by omega)]
  have h2 : (l.drop k).take (n - 1) = (l.take e).drop k := by rw [List.drop_take]; congr 1; omega
  rw [h2, List.drop_drop]
theorem insT_plain {k : Nat} {l : List Nat} (h : k ≠ 2) : insT k l = l := by rw [insT, if_neg h]
theorem news_wd {w : World} {vb : Nat} {x : Wd} {t : TypeId} (hvb : w.heap[vb]? = some (.cells (wdC x).toArray t (0, 0))) : ∀ j u, (wdC x)[j]? = some u → w.cell? ((⟨vb, 0, none⟩ : Addr).add j) = some u := by
  intro j u hj
  exact World.news_of_block hvb j u (by simpa using hj)
theorem push_words {N : Nat} {e : TypeId} {w0 w w7 w8 : World} {v : Value} {n sz : Nat} {xs : List Value} (h : Below N w0 w) (hrow : w.ownsRow N e sz v n xs) (hN : N ≤ w.heap.size) (h7 : Below w.heap.size w w7) (hg : w7.grownBy w8 v.ownBlock) : Below N w0 w8 :=
  (h.trans (h7.mono hN)).grown hg (by have := h7.size; omega) (fun k hk => by have := (hrow.lt k hk).1; omega)
set_option linter.unusedSimpArgs false in
set_option maxHeartbeats 16000000 in
theorem rall_any (s : ByteArray) (l : List Nat) (hs : bytesOf s = l) (hsz : s.size ≤ 65536) (w : World) :
    Calls Try.prog 9 #[.string s] w fun e w' => ((∃ p : Nat, (allW l).2 = some p ∧ e = .returned (.tuple #[.slice none 0 0, .int .i64 120, .int .i64 p])) ∨ ((allW l).2 = none ∧ ∃ v, e = .returned (.tuple #[v, .int .i64 0, .int .i64 0]) ∧ Hid (w'.ownsRow w.heap.size 45 3 v (allW l).1.length (flatW (allW l).1)))) ∧ Hid (Below w.heap.size w w') := by
  obtain ⟨i0, hi, hz0, hz1, hz2⟩ := info_parts infoW
  have HI := Lib.hid (⟨hi, hz0, hz1, hz2⟩ : _ ∧ _ ∧ _ ∧ _)
  clear hi hz0 hz1 hz2
  have HS := Lib.hid hs
  have hl : l.length = s.size := by rw [← hs, bytesOf_len]
  have HL := Lib.hid hl
  have hd0 : decide ((s.size : Int) > 65536) = false := decide_eq_false (by omega)
  have hd1 : decide ((65536 : Int) < s.size) = false := decide_eq_false (by omega)
  have HSK := Lib.hid (fun (p : Nat) (hp : p ≤ s.size) W => rskip_any s l hs (by omega) p hp W)
  have HSK0 : Hid (∀ W, Calls Try.prog 19 #[.string s, .int .i64 0] W fun e w' => e = .returned (.int .i64 (skN false l : Nat)) ∧ w' = W) := Lib.hid (fun W => by
    have := HSK.out 0 (Nat.zero_le _) W
    rw [List.drop_zero, Nat.zero_add] at this
    exact this)
  have HP0 : Hid (skN false l ≤ s.size) := Lib.hid (by have := skN_le false l; omega)
  have HALL : Hid (allW l = wds l (skN false l)) := Lib.hid rfl
  obtain ⟨p0, hp0⟩ : ∃ p0, skN false l = p0 := ⟨_, rfl⟩
  rw [hp0] at HSK0 HP0 HALL
  obtain ⟨N, hN⟩ : ∃ N, w.heap.size = N := ⟨_, rfl⟩
  have HN := Lib.hid hN
  rw [hN]
  clear hs hl hp0 hN
  go_enter Try.func9, Try.ntmps9
  go_wp2_with (go_at_call 19; (with_reducible refine (HSK0.out _).mono ?_); rintro e w5 ⟨rfl, e5⟩; subst w5)
  go_loopw [5, 6] (fun v z wr => ∃ (k : Nat) (pre : List Wd) (va : Option Addr) (vc : Nat), v = .slice va pre.length vc ∧ z = .int .i64 k ∧ k ≤ s.size ∧ pre.length ≤ k ∧ Hid (allW l = (pre ++ (wds l k).1, (wds l k).2)) ∧ Hid (wr.ownsRow N 45 3 (.slice va pre.length vc) pre.length (flatW pre)) ∧ Hid (Below N w wr)) (fun _ z _ => s.size - (intOf z).toNat)
  case atStart => exact ⟨p0, [], none, 0, rfl, rfl, HP0.out, Nat.zero_le _, Lib.hid HALL.out, Lib.hid (World.ownsRow_nil _ _ _ _), Lib.hid (Below.refl _ _)⟩
  case round =>
    obtain ⟨k, pre, va, vc, rfl, rfl, hk, hpk, HA, HR, HB⟩ := hrel
    by_cases hlt : k < s.size
    · have hd : decide ((k : Int) < s.size) = true := decide_eq_true (by omega)
      have hki : (k : Int) < s.size := by omega
      have hkl : k < l.length := by rw [HL.out]; exact hlt
      have hx := (get_nat HS.out hlt).2
      have hC : l.drop k = s[k].toNat :: l.drop (k + 1) := by rw [List.drop_eq_getElem_cons hkl, hx]
      have hNr : N ≤ wr.heap.size := by have := HB.out.size; have := HN.out; omega
      have HNR := Lib.hid hNr
      have HLE := Lib.hid (fun W => rletter_any s[k].toNat W)
      have HDI := Lib.hid (fun W => rdigit_any s[k].toNat W)
      clear hx hNr
      cases hL : isLet s[k].toNat
      · cases hD : isDig s[k].toNat
        · rw [hL] at HLE
          rw [hD] at HDI
          by_cases h47 : s[k].toNat = 47
          · have e47 : ((s[k].toNat : Int) == 47) = true := eq_yes (c := 47) h47
            have hf : fstW (l.drop k) = (2, slN false 1 (l.drop (k + 1))) := by rw [hC, fst_slash hL hD h47]
            have HSL := Lib.hid (fun W => rslash_any s l HS.out (by omega) (k + 1) (by omega) W)
            have hsh := slN_shift k false 1 (l.drop (k + 1))
            rw [Nat.add_comm 1 k] at hsh
            by_cases hz : slN false 1 (l.drop (k + 1)) = 0
            · rw [if_pos hz] at hsh
              rw [hsh] at HSL
              have HSL : Hid (∀ W, Calls Try.prog 23 #[.string s, .int .i64 ((k : Int) + 1)] W fun e w' => e = .returned (.int .i64 (-1)) ∧ w' = W) := HSL
              have hbad := wds_bad hkl (by rw [hf]; exact hz)
              have HZ : Hid ((allW l).2 = some k) := Lib.hid (by rw [HA.out, hbad])
              clear hbad hf hsh hz h47 hL hD hC HA HR
              go_wp2_with (first
                | (go_at_call 20; (with_reducible refine (HLE.out _).mono ?_); rintro e5 w5 ⟨rfl, h5⟩; subst w5)
                | (go_at_call 22; (with_reducible refine (HDI.out _).mono ?_); rintro e5 w5 ⟨rfl, h5⟩; subst w5)
                | (go_at_call 23; (with_reducible refine (HSL.out _).mono ?_); rintro e5 w5 ⟨rfl, h5⟩; subst w5))
              go_ret3
              exact ⟨.inl ⟨k, HZ.out, rfl⟩, Lib.hid (HB.out.alloc HNR.out _)⟩
            · rw [if_neg hz] at hsh
              have hn2 := slN_gt _ _ _ hz
              obtain ⟨n, hn⟩ : ∃ n, slN false 1 (l.drop (k + 1)) = n := ⟨_, rfl⟩
              have hle := slN_le false 1 (l.drop (k + 1))
              rw [List.length_drop, HL.out] at hle
              rw [hn] at hf hz hsh hn2 hle
              obtain ⟨e, he⟩ : ∃ e, k + n = e + 1 := ⟨k + n - 1, by omega⟩
              rw [hsh, show n + k = e + 1 by omega] at HSL
              have HSL : Hid (∀ W, Calls Try.prog 23 #[.string s, .int .i64 ((k : Int) + 1)] W fun e' w' => e' = .returned (.int .i64 e) ∧ w' = W) := Lib.hid (fun W => (HSL.out W).mono fun e' w' ⟨h1, h2⟩ => ⟨by rw [h1]; simp, h2⟩)
              have HT : Hid (s.extract (k + 1) e = strOf (insT 2 ((l.drop k).take n))) := Lib.hid (ext_in HS.out hn2 he (by rw [HL.out]; omega))
              have hesz : e ≤ s.size := by omega
              have hke : k + 1 ≤ e := by omega
              have hge : decide ((e : Int) < 0) = false := decide_eq_false (by omega)
              have hmore := wds_more hkl hf hz (q := k + n + skN false (l.drop (k + n))) rfl
              obtain ⟨q, hq⟩ : ∃ q, k + n + skN false (l.drop (k + n)) = q := ⟨_, rfl⟩
              have hql : q ≤ s.size := by
                have h1 := skN_le false (l.drop (k + n))
                rw [List.length_drop, HL.out] at h1
                omega
              have hqk : k < q := by omega
              have HSQ := Lib.hid (HSK.out (k + n) (by omega))
              rw [hq] at HSQ hmore
              obtain ⟨TT, hTT⟩ : ∃ TT, insT 2 ((l.drop k).take n) = TT := ⟨_, rfl⟩
              rw [hTT] at hmore HT
              have HM : Hid (allW l = ((pre ++ [⟨2, TT, k⟩]) ++ (wds l q).1, (wds l q).2)) := Lib.hid (by rw [HA.out, hmore, List.append_assoc]; rfl)
              have ht := HT.out
              have HSQE : Hid (k + n = e + 1) := Lib.hid he
              rw [he] at HSQ
              have HSQ : Hid (∀ W, Calls Try.prog 19 #[.string s, .int .i64 ((e : Int) + 1)] W fun e' w' => e' = .returned (.int .i64 q) ∧ w' = W) := HSQ
              have HRA := Lib.hid ((HR.out.alloc (.cells (wdC ⟨2, TT, k⟩).toArray 45)).alloc (.cells (wdC ⟨2, TT, k⟩).toArray 45))
              clear hmore hf hq hz hTT hL hD hC HA hn hsh h47 hn2 he
              go_wp2_with (first
                | (go_at_call 20; (with_reducible refine (HLE.out _).mono ?_); rintro e5 w5 ⟨rfl, h5⟩; subst w5)
                | (go_at_call 22; (with_reducible refine (HDI.out _).mono ?_); rintro e5 w5 ⟨rfl, h5⟩; subst w5)
                | (go_at_call 23; (with_reducible refine (HSL.out _).mono ?_); rintro e5 w5 ⟨rfl, h5⟩; subst w5)
                | (go_at_call 19; (with_reducible refine (HSQ.out _).mono ?_); rintro e5 w5 ⟨rfl, h5⟩; subst w5)
                | (at_builtin; refine wpList_append_lies _ rfl _ _ 27 rfl N 45 i0 (.agg #[.int .i64 0, .string ⟨#[]⟩, .int .i64 0]) 3 32 Try.underlying27 HI.out.1 HI.out.2.1 HI.out.2.2.1 HI.out.2.2.2 rfl (by decide) (.slice va pre.length vc) pre.length (flatW pre) rfl HRA.out ⟨wr.heap.size + 1, 0, none⟩ 1 1 (wdC ⟨2, TT, k⟩) rfl rfl (by have h9 := heap_alloc_new (wr.alloc (.cells (wdC ⟨2, TT, k⟩).toArray 45)) (.cells (wdC ⟨2, TT, k⟩).toArray 45); rw [World.size_alloc] at h9; exact news_wd h9) (by simp [wdC, Value.oneCell']) (by omega) (by unfold maxLen; omega) (by omega) (by have := HNR.out; simp; omega) (wr.heap.size + 1 + 1) (by simp) ?_; intro g cap2 w8 h2 h3 h4 h5; have HP2 := Lib.hid h2; have HP3 := Lib.hid h3; clear h2 h3 h4 h5))
              go_roundw
              case rel => exact ⟨q, pre ++ [⟨2, TT, k⟩], _, _, by rw [List.length_append]; rfl, rfl, hql, by rw [List.length_append]; simp; omega, HM, Lib.hid (by rw [List.length_append, flatW_snoc]; exact HP2.out), Lib.hid (push_words HB.out HR.out HNR.out (below2 wr _ _) HP3.out)⟩
              case measure => simp only [intOf]; omega
          · by_cases hm : s[k].toNat = 58 ∨ s[k].toNat = 124 ∨ s[k].toNat = 59
            · have hf : fstW (l.drop k) = (3, 1) := by rw [hC, fst_mark hL hD h47 hm]
              have e47 : ((s[k].toNat : Int) == 47) = false := eq_no (c := 47) h47
              have hz : ¬ (1 : Nat) = 0 := by omega
              obtain ⟨n, hn⟩ : ∃ n, (1 : Nat) = n := ⟨_, rfl⟩
              have hn1 : 1 = n := hn
              rw [hn] at hf hz
              have hen : k + n = k + 1 := by omega
              have HT : Hid (s.extract k (k + 1) = strOf (insT 3 ((l.drop k).take n))) := Lib.hid (by rw [insT_plain (by decide)]; exact ext_part HS.out hen)
              have hesz : k + 1 ≤ s.size := by omega
              have hke : k ≤ k + 1 := by omega
              rcases hm with hm | hm | hm
              · have e58 : ((s[k].toNat : Int) == 58) = true := eq_yes (c := 58) hm
                have hmore := wds_more hkl hf hz (q := k + n + skN false (l.drop (k + n))) rfl
                obtain ⟨q, hq⟩ : ∃ q, k + n + skN false (l.drop (k + n)) = q := ⟨_, rfl⟩
                have hql : q ≤ s.size := by
                  have h1 := skN_le false (l.drop (k + n))
                  rw [List.length_drop, HL.out] at h1
                  omega
                have hqk : k < q := by omega
                have HSQ := Lib.hid (HSK.out (k + n) (by omega))
                rw [hq] at HSQ hmore
                obtain ⟨TT, hTT⟩ : ∃ TT, insT 3 ((l.drop k).take n) = TT := ⟨_, rfl⟩
                rw [hTT] at hmore HT
                have HM : Hid (allW l = ((pre ++ [⟨3, TT, k⟩]) ++ (wds l q).1, (wds l q).2)) := Lib.hid (by rw [HA.out, hmore, List.append_assoc]; rfl)
                have ht := HT.out
                rw [hen] at HSQ
                have HSQ : Hid (∀ W, Calls Try.prog 19 #[.string s, .int .i64 ((k : Int) + 1)] W fun e' w' => e' = .returned (.int .i64 q) ∧ w' = W) := HSQ
                have HRA := Lib.hid ((HR.out.alloc (.cells (wdC ⟨3, TT, k⟩).toArray 45)).alloc (.cells (wdC ⟨3, TT, k⟩).toArray 45))
                clear hmore hf hq hz hTT hL hD hC HA h47 hm hn hn1 hen
                go_wp2_with (first
                  | (go_at_call 20; (with_reducible refine (HLE.out _).mono ?_); rintro e5 w5 ⟨rfl, h5⟩; subst w5)
                  | (go_at_call 22; (with_reducible refine (HDI.out _).mono ?_); rintro e5 w5 ⟨rfl, h5⟩; subst w5)
                  | (go_at_call 19; (with_reducible refine (HSQ.out _).mono ?_); rintro e5 w5 ⟨rfl, h5⟩; subst w5)
                  | (at_builtin; refine wpList_append_lies _ rfl _ _ 27 rfl N 45 i0 (.agg #[.int .i64 0, .string ⟨#[]⟩, .int .i64 0]) 3 32 Try.underlying27 HI.out.1 HI.out.2.1 HI.out.2.2.1 HI.out.2.2.2 rfl (by decide) (.slice va pre.length vc) pre.length (flatW pre) rfl HRA.out ⟨wr.heap.size + 1, 0, none⟩ 1 1 (wdC ⟨3, TT, k⟩) rfl rfl (by have h9 := heap_alloc_new (wr.alloc (.cells (wdC ⟨3, TT, k⟩).toArray 45)) (.cells (wdC ⟨3, TT, k⟩).toArray 45); rw [World.size_alloc] at h9; exact news_wd h9) (by simp [wdC, Value.oneCell']) (by omega) (by unfold maxLen; omega) (by omega) (by have := HNR.out; simp; omega) (wr.heap.size + 1 + 1) (by simp) ?_; intro g cap2 w8 h2 h3 h4 h5; have HP2 := Lib.hid h2; have HP3 := Lib.hid h3; clear h2 h3 h4 h5))
                go_roundw
                case rel => exact ⟨q, pre ++ [⟨3, TT, k⟩], _, _, by rw [List.length_append]; rfl, rfl, hql, by rw [List.length_append]; simp; omega, HM, Lib.hid (by rw [List.length_append, flatW_snoc]; exact HP2.out), Lib.hid (push_words HB.out HR.out HNR.out (below2 wr _ _) HP3.out)⟩
                case measure => simp only [intOf]; omega
              · have e58 : ((s[k].toNat : Int) == 58) = false := eq_no (c := 58) (by omega)
                have e124 : ((s[k].toNat : Int) == 124) = true := eq_yes (c := 124) hm
                have hmore := wds_more hkl hf hz (q := k + n + skN false (l.drop (k + n))) rfl
                obtain ⟨q, hq⟩ : ∃ q, k + n + skN false (l.drop (k + n)) = q := ⟨_, rfl⟩
                have hql : q ≤ s.size := by
                  have h1 := skN_le false (l.drop (k + n))
                  rw [List.length_drop, HL.out] at h1
                  omega
                have hqk : k < q := by omega
                have HSQ := Lib.hid (HSK.out (k + n) (by omega))
                rw [hq] at HSQ hmore
                obtain ⟨TT, hTT⟩ : ∃ TT, insT 3 ((l.drop k).take n) = TT := ⟨_, rfl⟩
                rw [hTT] at hmore HT
                have HM : Hid (allW l = ((pre ++ [⟨3, TT, k⟩]) ++ (wds l q).1, (wds l q).2)) := Lib.hid (by rw [HA.out, hmore, List.append_assoc]; rfl)
                have ht := HT.out
                rw [hen] at HSQ
                have HSQ : Hid (∀ W, Calls Try.prog 19 #[.string s, .int .i64 ((k : Int) + 1)] W fun e' w' => e' = .returned (.int .i64 q) ∧ w' = W) := HSQ
                have HRA := Lib.hid ((HR.out.alloc (.cells (wdC ⟨3, TT, k⟩).toArray 45)).alloc (.cells (wdC ⟨3, TT, k⟩).toArray 45))
                clear hmore hf hq hz hTT hL hD hC HA h47 hm hn hn1 hen
                go_wp2_with (first
                  | (go_at_call 20; (with_reducible refine (HLE.out _).mono ?_); rintro e5 w5 ⟨rfl, h5⟩; subst w5)
                  | (go_at_call 22; (with_reducible refine (HDI.out _).mono ?_); rintro e5 w5 ⟨rfl, h5⟩; subst w5)
                  | (go_at_call 19; (with_reducible refine (HSQ.out _).mono ?_); rintro e5 w5 ⟨rfl, h5⟩; subst w5)
                  | (at_builtin; refine wpList_append_lies _ rfl _ _ 27 rfl N 45 i0 (.agg #[.int .i64 0, .string ⟨#[]⟩, .int .i64 0]) 3 32 Try.underlying27 HI.out.1 HI.out.2.1 HI.out.2.2.1 HI.out.2.2.2 rfl (by decide) (.slice va pre.length vc) pre.length (flatW pre) rfl HRA.out ⟨wr.heap.size + 1, 0, none⟩ 1 1 (wdC ⟨3, TT, k⟩) rfl rfl (by have h9 := heap_alloc_new (wr.alloc (.cells (wdC ⟨3, TT, k⟩).toArray 45)) (.cells (wdC ⟨3, TT, k⟩).toArray 45); rw [World.size_alloc] at h9; exact news_wd h9) (by simp [wdC, Value.oneCell']) (by omega) (by unfold maxLen; omega) (by omega) (by have := HNR.out; simp; omega) (wr.heap.size + 1 + 1) (by simp) ?_; intro g cap2 w8 h2 h3 h4 h5; have HP2 := Lib.hid h2; have HP3 := Lib.hid h3; clear h2 h3 h4 h5))
                go_roundw
                case rel => exact ⟨q, pre ++ [⟨3, TT, k⟩], _, _, by rw [List.length_append]; rfl, rfl, hql, by rw [List.length_append]; simp; omega, HM, Lib.hid (by rw [List.length_append, flatW_snoc]; exact HP2.out), Lib.hid (push_words HB.out HR.out HNR.out (below2 wr _ _) HP3.out)⟩
                case measure => simp only [intOf]; omega
              · have e58 : ((s[k].toNat : Int) == 58) = false := eq_no (c := 58) (by omega)
                have e124 : ((s[k].toNat : Int) == 124) = false := eq_no (c := 124) (by omega)
                have e59 : ((s[k].toNat : Int) == 59) = true := eq_yes (c := 59) hm
                have hmore := wds_more hkl hf hz (q := k + n + skN false (l.drop (k + n))) rfl
                obtain ⟨q, hq⟩ : ∃ q, k + n + skN false (l.drop (k + n)) = q := ⟨_, rfl⟩
                have hql : q ≤ s.size := by
                  have h1 := skN_le false (l.drop (k + n))
                  rw [List.length_drop, HL.out] at h1
                  omega
                have hqk : k < q := by omega
                have HSQ := Lib.hid (HSK.out (k + n) (by omega))
                rw [hq] at HSQ hmore
                obtain ⟨TT, hTT⟩ : ∃ TT, insT 3 ((l.drop k).take n) = TT := ⟨_, rfl⟩
                rw [hTT] at hmore HT
                have HM : Hid (allW l = ((pre ++ [⟨3, TT, k⟩]) ++ (wds l q).1, (wds l q).2)) := Lib.hid (by rw [HA.out, hmore, List.append_assoc]; rfl)
                have ht := HT.out
                rw [hen] at HSQ
                have HSQ : Hid (∀ W, Calls Try.prog 19 #[.string s, .int .i64 ((k : Int) + 1)] W fun e' w' => e' = .returned (.int .i64 q) ∧ w' = W) := HSQ
                have HRA := Lib.hid ((HR.out.alloc (.cells (wdC ⟨3, TT, k⟩).toArray 45)).alloc (.cells (wdC ⟨3, TT, k⟩).toArray 45))
                clear hmore hf hq hz hTT hL hD hC HA h47 hm hn hn1 hen
                go_wp2_with (first
                  | (go_at_call 20; (with_reducible refine (HLE.out _).mono ?_); rintro e5 w5 ⟨rfl, h5⟩; subst w5)
                  | (go_at_call 22; (with_reducible refine (HDI.out _).mono ?_); rintro e5 w5 ⟨rfl, h5⟩; subst w5)
                  | (go_at_call 19; (with_reducible refine (HSQ.out _).mono ?_); rintro e5 w5 ⟨rfl, h5⟩; subst w5)
                  | (at_builtin; refine wpList_append_lies _ rfl _ _ 27 rfl N 45 i0 (.agg #[.int .i64 0, .string ⟨#[]⟩, .int .i64 0]) 3 32 Try.underlying27 HI.out.1 HI.out.2.1 HI.out.2.2.1 HI.out.2.2.2 rfl (by decide) (.slice va pre.length vc) pre.length (flatW pre) rfl HRA.out ⟨wr.heap.size + 1, 0, none⟩ 1 1 (wdC ⟨3, TT, k⟩) rfl rfl (by have h9 := heap_alloc_new (wr.alloc (.cells (wdC ⟨3, TT, k⟩).toArray 45)) (.cells (wdC ⟨3, TT, k⟩).toArray 45); rw [World.size_alloc] at h9; exact news_wd h9) (by simp [wdC, Value.oneCell']) (by omega) (by unfold maxLen; omega) (by omega) (by have := HNR.out; simp; omega) (wr.heap.size + 1 + 1) (by simp) ?_; intro g cap2 w8 h2 h3 h4 h5; have HP2 := Lib.hid h2; have HP3 := Lib.hid h3; clear h2 h3 h4 h5))
                go_roundw
                case rel => exact ⟨q, pre ++ [⟨3, TT, k⟩], _, _, by rw [List.length_append]; rfl, rfl, hql, by rw [List.length_append]; simp; omega, HM, Lib.hid (by rw [List.length_append, flatW_snoc]; exact HP2.out), Lib.hid (push_words HB.out HR.out HNR.out (below2 wr _ _) HP3.out)⟩
                case measure => simp only [intOf]; omega
            · have e47 : ((s[k].toNat : Int) == 47) = false := eq_no (c := 47) h47
              have e58 : ((s[k].toNat : Int) == 58) = false := eq_no (c := 58) (by omega)
              have e124 : ((s[k].toNat : Int) == 124) = false := eq_no (c := 124) (by omega)
              have e59 : ((s[k].toNat : Int) == 59) = false := eq_no (c := 59) (by omega)
              have hbad := wds_bad hkl (by rw [hC, fst_none hL hD h47 hm])
              have HZ : Hid ((allW l).2 = some k) := Lib.hid (by rw [HA.out, hbad])
              clear hbad hm h47 hL hD hC HA HR
              go_wp2_with (first
                | (go_at_call 20; (with_reducible refine (HLE.out _).mono ?_); rintro e5 w5 ⟨rfl, h5⟩; subst w5)
                | (go_at_call 22; (with_reducible refine (HDI.out _).mono ?_); rintro e5 w5 ⟨rfl, h5⟩; subst w5)
                | (go_at_call 23; (with_reducible refine (HSL.out _).mono ?_); rintro e5 w5 ⟨rfl, h5⟩; subst w5))
              go_ret3
              exact ⟨.inl ⟨k, HZ.out, rfl⟩, Lib.hid (HB.out.alloc HNR.out _)⟩
        · rw [hL] at HLE
          rw [hD] at HDI
          have hf : fstW (l.drop k) = (1, capN 4 (runN isDig (l.drop k))) := by rw [hC, fst_dig hL hD]
          have hn1 : 1 ≤ runN isDig (l.drop k) := by rw [hC]; exact run_one hD
          have hn2 : runN isDig (l.drop k) ≤ s.size - k := by have := runN_le isDig (l.drop k); rw [List.length_drop, HL.out] at this; exact this
          have HRU := Lib.hid (fun W => rrun_dig s l HS.out (by omega) k (by omega) W)
          obtain ⟨n, hn⟩ : ∃ n, runN isDig (l.drop k) = n := ⟨_, rfl⟩
          obtain ⟨e, he⟩ : ∃ e, k + n = e := ⟨_, rfl⟩
          rw [hn] at hf hn1 hn2 HRU
          rw [he] at HRU
          have hesz : e ≤ s.size := by omega
          have hke : k ≤ e := by omega
          have hts : (s.extract k e).size = n := by rw [ext_size hesz]; omega
          by_cases hc : 4 < n
          · rw [cap_yes hc] at hf
            have hbad := wds_bad hkl (by rw [hf])
            have HZ : Hid ((allW l).2 = some k) := Lib.hid (by rw [HA.out, hbad])
            have hc1 : decide ((n : Int) > 4) = true := decide_eq_true (by omega)
            have hc2 : decide ((4 : Int) < n) = true := decide_eq_true (by omega)
            clear hbad hf hL hD hC HA HR hn he
            go_wp2_with (first
              | (go_at_call 20; (with_reducible refine (HLE.out _).mono ?_); rintro e5 w5 ⟨rfl, h5⟩; subst w5)
              | (go_at_call 22; (with_reducible refine (HDI.out _).mono ?_); rintro e5 w5 ⟨rfl, h5⟩; subst w5)
              | (go_at_call 21; (with_reducible refine (HRU.out _).mono ?_); rintro e5 w5 ⟨rfl, h5⟩; subst w5))
            go_ret3
            exact ⟨.inl ⟨k, HZ.out, rfl⟩, Lib.hid (HB.out.alloc HNR.out _)⟩
          · rw [cap_no hc] at hf
            have hz : ¬ n = 0 := by omega
            have hc1 : decide ((n : Int) > 4) = false := decide_eq_false (by omega)
            have hc2 : decide ((4 : Int) < n) = false := decide_eq_false (by omega)
            have HT : Hid (s.extract k e = strOf (insT 1 ((l.drop k).take n))) := Lib.hid (by rw [insT_plain (by decide)]; exact ext_part HS.out he)
            have hmore := wds_more hkl hf hz (q := k + n + skN false (l.drop (k + n))) rfl
            obtain ⟨q, hq⟩ : ∃ q, k + n + skN false (l.drop (k + n)) = q := ⟨_, rfl⟩
            have hql : q ≤ s.size := by
              have h1 := skN_le false (l.drop (k + n))
              rw [List.length_drop, HL.out] at h1
              omega
            have hqk : k < q := by omega
            have HSQ := Lib.hid (HSK.out (k + n) (by omega))
            rw [hq] at HSQ hmore
            obtain ⟨TT, hTT⟩ : ∃ TT, insT 1 ((l.drop k).take n) = TT := ⟨_, rfl⟩
            rw [hTT] at hmore HT
            have HM : Hid (allW l = ((pre ++ [⟨1, TT, k⟩]) ++ (wds l q).1, (wds l q).2)) := Lib.hid (by rw [HA.out, hmore, List.append_assoc]; rfl)
            have ht := HT.out
            rw [he] at HSQ
            have hts2 : (strOf TT).size = n := by rw [← ht]; exact hts
            clear hts
            have HRA := Lib.hid ((HR.out.alloc (.cells (wdC ⟨1, TT, k⟩).toArray 45)).alloc (.cells (wdC ⟨1, TT, k⟩).toArray 45))
            clear hmore hf hq hz hTT hL hD hC HA hn he
            go_wp2_with (first
              | (go_at_call 20; (with_reducible refine (HLE.out _).mono ?_); rintro e5 w5 ⟨rfl, h5⟩; subst w5)
              | (go_at_call 22; (with_reducible refine (HDI.out _).mono ?_); rintro e5 w5 ⟨rfl, h5⟩; subst w5)
              | (go_at_call 21; (with_reducible refine (HRU.out _).mono ?_); rintro e5 w5 ⟨rfl, h5⟩; subst w5)
              | (go_at_call 19; (with_reducible refine (HSQ.out _).mono ?_); rintro e5 w5 ⟨rfl, h5⟩; subst w5)
              | (at_builtin; refine wpList_append_lies _ rfl _ _ 27 rfl N 45 i0 (.agg #[.int .i64 0, .string ⟨#[]⟩, .int .i64 0]) 3 32 Try.underlying27 HI.out.1 HI.out.2.1 HI.out.2.2.1 HI.out.2.2.2 rfl (by decide) (.slice va pre.length vc) pre.length (flatW pre) rfl HRA.out ⟨wr.heap.size + 1, 0, none⟩ 1 1 (wdC ⟨1, TT, k⟩) rfl rfl (by have h9 := heap_alloc_new (wr.alloc (.cells (wdC ⟨1, TT, k⟩).toArray 45)) (.cells (wdC ⟨1, TT, k⟩).toArray 45); rw [World.size_alloc] at h9; exact news_wd h9) (by simp [wdC, Value.oneCell']) (by omega) (by unfold maxLen; omega) (by omega) (by have := HNR.out; simp; omega) (wr.heap.size + 1 + 1) (by simp) ?_; intro g cap2 w8 h2 h3 h4 h5; have HP2 := Lib.hid h2; have HP3 := Lib.hid h3; clear h2 h3 h4 h5))
            go_roundw
            case rel => exact ⟨q, pre ++ [⟨1, TT, k⟩], _, _, by rw [List.length_append]; rfl, rfl, hql, by rw [List.length_append]; simp; omega, HM, Lib.hid (by rw [List.length_append, flatW_snoc]; exact HP2.out), Lib.hid (push_words HB.out HR.out HNR.out (below2 wr _ _) HP3.out)⟩
            case measure => simp only [intOf]; omega
      · rw [hL] at HLE
        have hf : fstW (l.drop k) = (0, capN 32 (runN isNam (l.drop k))) := by rw [hC, fst_let hL]
        have hn1 : 1 ≤ runN isNam (l.drop k) := by rw [hC]; exact run_one (by unfold isNam; rw [hL]; rfl)
        have hn2 : runN isNam (l.drop k) ≤ s.size - k := by have := runN_le isNam (l.drop k); rw [List.length_drop, HL.out] at this; exact this
        have HRU := Lib.hid (fun W => rrun_nam s l HS.out (by omega) k (by omega) W)
        obtain ⟨n, hn⟩ : ∃ n, runN isNam (l.drop k) = n := ⟨_, rfl⟩
        obtain ⟨e, he⟩ : ∃ e, k + n = e := ⟨_, rfl⟩
        rw [hn] at hf hn1 hn2 HRU
        rw [he] at HRU
        have hesz : e ≤ s.size := by omega
        have hke : k ≤ e := by omega
        have hts : (s.extract k e).size = n := by rw [ext_size hesz]; omega
        by_cases hc : 32 < n
        · rw [cap_yes hc] at hf
          have hbad := wds_bad hkl (by rw [hf])
          have HZ : Hid ((allW l).2 = some k) := Lib.hid (by rw [HA.out, hbad])
          have hc1 : decide ((n : Int) > 32) = true := decide_eq_true (by omega)
          have hc2 : decide ((32 : Int) < n) = true := decide_eq_true (by omega)
          clear hbad hf hL hC HA HR hn he
          go_wp2_with (first
            | (go_at_call 20; (with_reducible refine (HLE.out _).mono ?_); rintro e5 w5 ⟨rfl, h5⟩; subst w5)
            | (go_at_call 21; (with_reducible refine (HRU.out _).mono ?_); rintro e5 w5 ⟨rfl, h5⟩; subst w5))
          go_ret3
          exact ⟨.inl ⟨k, HZ.out, rfl⟩, Lib.hid (HB.out.alloc HNR.out _)⟩
        · rw [cap_no hc] at hf
          have hz : ¬ n = 0 := by omega
          have hc1 : decide ((n : Int) > 32) = false := decide_eq_false (by omega)
          have hc2 : decide ((32 : Int) < n) = false := decide_eq_false (by omega)
          have HT : Hid (s.extract k e = strOf (insT 0 ((l.drop k).take n))) := Lib.hid (by rw [insT_plain (by decide)]; exact ext_part HS.out he)
          have hmore := wds_more hkl hf hz (q := k + n + skN false (l.drop (k + n))) rfl
          obtain ⟨q, hq⟩ : ∃ q, k + n + skN false (l.drop (k + n)) = q := ⟨_, rfl⟩
          have hql : q ≤ s.size := by
            have h1 := skN_le false (l.drop (k + n))
            rw [List.length_drop, HL.out] at h1
            omega
          have hqk : k < q := by omega
          have HSQ := Lib.hid (HSK.out (k + n) (by omega))
          rw [hq] at HSQ hmore
          obtain ⟨TT, hTT⟩ : ∃ TT, insT 0 ((l.drop k).take n) = TT := ⟨_, rfl⟩
          rw [hTT] at hmore HT
          have HM : Hid (allW l = ((pre ++ [⟨0, TT, k⟩]) ++ (wds l q).1, (wds l q).2)) := Lib.hid (by rw [HA.out, hmore, List.append_assoc]; rfl)
          have ht := HT.out
          rw [he] at HSQ
          have hts2 : (strOf TT).size = n := by rw [← ht]; exact hts
          clear hts
          have HRA := Lib.hid ((HR.out.alloc (.cells (wdC ⟨0, TT, k⟩).toArray 45)).alloc (.cells (wdC ⟨0, TT, k⟩).toArray 45))
          clear hmore hf hq hz hTT hL hC HA hn he
          go_wp2_with (first
            | (go_at_call 20; (with_reducible refine (HLE.out _).mono ?_); rintro e5 w5 ⟨rfl, h5⟩; subst w5)
            | (go_at_call 21; (with_reducible refine (HRU.out _).mono ?_); rintro e5 w5 ⟨rfl, h5⟩; subst w5)
            | (go_at_call 19; (with_reducible refine (HSQ.out _).mono ?_); rintro e5 w5 ⟨rfl, h5⟩; subst w5)
            | (at_builtin; refine wpList_append_lies _ rfl _ _ 27 rfl N 45 i0 (.agg #[.int .i64 0, .string ⟨#[]⟩, .int .i64 0]) 3 32 Try.underlying27 HI.out.1 HI.out.2.1 HI.out.2.2.1 HI.out.2.2.2 rfl (by decide) (.slice va pre.length vc) pre.length (flatW pre) rfl HRA.out ⟨wr.heap.size + 1, 0, none⟩ 1 1 (wdC ⟨0, TT, k⟩) rfl rfl (by have h9 := heap_alloc_new (wr.alloc (.cells (wdC ⟨0, TT, k⟩).toArray 45)) (.cells (wdC ⟨0, TT, k⟩).toArray 45); rw [World.size_alloc] at h9; exact news_wd h9) (by simp [wdC, Value.oneCell']) (by omega) (by unfold maxLen; omega) (by omega) (by have := HNR.out; simp; omega) (wr.heap.size + 1 + 1) (by simp) ?_; intro g cap2 w8 h2 h3 h4 h5; have HP2 := Lib.hid h2; have HP3 := Lib.hid h3; clear h2 h3 h4 h5))
          go_roundw
          case rel => exact ⟨q, pre ++ [⟨0, TT, k⟩], _, _, by rw [List.length_append]; rfl, rfl, hql, by rw [List.length_append]; simp; omega, HM, Lib.hid (by rw [List.length_append, flatW_snoc]; exact HP2.out), Lib.hid (push_words HB.out HR.out HNR.out (below2 wr _ _) HP3.out)⟩
          case measure => simp only [intOf]; omega
    · have hd : decide ((k : Int) < s.size) = false := decide_eq_false (by omega)
      have hE := HA.out
      rw [wds_end (by rw [HL.out]; exact hlt), List.append_nil] at hE
      have HE := Lib.hid hE
      clear hE HA
      go_wp2
      go_ret3
      refine ⟨.inr ⟨by rw [HE.out], _, rfl, ?_⟩, HB⟩
      rw [HE.out]; exact HR
end Go.Proofs.Ytplgnbedcjanhaa
