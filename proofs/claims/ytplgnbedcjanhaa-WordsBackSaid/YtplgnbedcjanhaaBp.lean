/- Contracts: Join and Same of the reference; plain of the law. -/
import Derived.Test.YtplgnbedcjanhaaBo
import Derived.Test.YtplgnbedcjanhaaBl
set_option maxRecDepth 100000
namespace Go.Proofs.Ytplgnbedcjanhaa
open Go.RowKit

theorem mixed12 : Try.prog.follows .mixedOrders = true := by kernel_rfl
/-- Words that are the same, but for where they stand if that plays no part. -/
def SameW (places : Bool) (a b : List Wd) : Prop := a.length = b.length ∧ ∀ i (h : i < a.length) (h' : i < b.length), a[i].kind = b[i].kind ∧ a[i].txt = b[i].txt ∧ (places = true → a[i].pos = b[i].pos)
theorem SameW.refl (p : Bool) (a : List Wd) : SameW p a a := ⟨rfl, fun _ _ _ => ⟨rfl, rfl, fun _ => rfl⟩⟩
set_option maxHeartbeats 8000000 in
theorem same_any (p : Bool) (u v : Value) (a b : List Wd) (w : World) (hu : WsAt w u a) (hv : WsAt w v b) (hs : SameW p a b) (hn : a.length ≤ 1000000) :
    Calls Try.prog 10 #[u, v, .bool p] w fun e w' => e = .returned (.bool true) ∧ ∃ n, w' = w.drewN n := by
  have HU := Lib.hid hu
  have HV := Lib.hid hv
  obtain ⟨a1, c1, rfl, _, _⟩ := hu
  obtain ⟨a2, c2, rfl, _, _⟩ := hv
  have HS := Lib.hid hs
  have hl : b.length = a.length := hs.1.symm
  rw [hl] at HV ⊢
  have HL := Lib.hid hl
  have e0 : ((a.length : Int) != (a.length : Int)) = false := ne_no rfl
  clear hs hl
  go_enter Try.func10, Try.ntmps10
  go_wp2
  go_loopw [7] (fun z wr => ∃ k : Nat, z = .int .i64 k ∧ k ≤ a.length ∧ Hid (∃ n, wr = w.drewN n)) (fun z _ => a.length - (intOf z).toNat)
  case atStart => exact ⟨0, rfl, Nat.zero_le _, Lib.hid ⟨0, rfl⟩⟩
  case round =>
    obtain ⟨k, rfl, hk, HW⟩ := hrel
    by_cases hlt : k < a.length
    · have hd : decide ((k : Int) < a.length) = true := decide_eq_true (by omega)
      have hki : (k : Int) < a.length := by omega
      have hkb : k < b.length := by rw [HL.out]; exact hlt
      obtain ⟨g1, o1, rfl, x0, x1, x2⟩ := HU.out.at hlt
      obtain ⟨g2, o2, rfl, y0, y1, y2⟩ := HV.out.at hkb
      obtain ⟨s0, s1, s2⟩ := HS.out.2 k hlt hkb
      rw [← s0] at y0
      rw [← s1] at y1
      have hc : ∀ (ad : Addr), wr.cell? ad = w.cell? ad := fun ad => by obtain ⟨n, rfl⟩ := HW.out; rfl
      rw [← hc] at x0 x1 x2 y0 y1 y2
      have f0 : (a[k].kind != a[k].kind) = false := in_no rfl
      have f1 : ((strOf a[k].txt).toList != (strOf a[k].txt).toList) = false := by rw [bne_self_eq_false]
      cases p
      · clear s0 s1 s2 hc
        go_upto_region 6 with fail
        go_quiet (fail)
        go_wp2
        go_roundw
        case rel => exact ⟨k + 1, rfl, hlt, Lib.hid (by obtain ⟨n, rfl⟩ := HW.out; exact ⟨_, World.drewN_drewN _ _ _⟩)⟩
        case measure => simp only [intOf]; omega
      · rw [← s2 rfl] at y2
        have f2 : ((a[k].pos : Int) != (a[k].pos : Int)) = false := ne_no rfl
        clear s0 s1 s2 hc
        go_upto_region 6 with fail
        go_quiet (fail)
        go_wp2
        go_roundw
        case rel => exact ⟨k + 1, rfl, hlt, Lib.hid (by obtain ⟨n, rfl⟩ := HW.out; exact ⟨_, World.drewN_drewN _ _ _⟩)⟩
        case measure => simp only [intOf]; omega
    · obtain rfl : k = a.length := by omega
      have hd : decide ((a.length : Int) < a.length) = false := by simp
      go_wp2
      go_ret
      exact ⟨rfl, HW.out⟩
theorem strOf_cat (l r : List Nat) : strOf l ++ strOf r = strOf (l ++ r) := (strOf_append l r).symm
set_option maxHeartbeats 8000000 in
theorem rjoin_any (v : Value) (ws : List Wd) (w : World) (h : WsAt w v ws) (hn : ws.length ≤ 1000000) (hlen : (joinL ws).length ≤ 90000) :
    Calls Try.prog 17 #[v] w fun e w' => e = .returned (.string (strOf (joinL ws))) ∧ w' = w := by
  have HA := Lib.hid h
  obtain ⟨a, c, rfl, hc, _⟩ := h
  have HLN := Lib.hid hlen
  clear hlen
  go_enter Try.func17, Try.ntmps17
  go_wp2
  go_loopw [3, 4] (fun s z wr => ∃ k : Nat, z = .int .i64 k ∧ k ≤ ws.length ∧ s = .string (strOf (joinL (ws.take k))) ∧ wr = w) (fun _ z _ => ws.length - (intOf z).toNat)
  case atStart => exact ⟨0, rfl, Nat.zero_le _, rfl, rfl⟩
  case round =>
    obtain ⟨k, rfl, hk, rfl, rfl⟩ := hrel
    by_cases hlt : k < ws.length
    · have hd : decide ((k : Int) < ws.length) = true := decide_eq_true (by omega)
      have hki : (k : Int) < ws.length := by omega
      obtain ⟨b, o, rfl, c0, c1, c2⟩ := HA.out.at hlt
      have hj := joinL_take hlt
      have hm := joinL_mono ws ws.length (k + 1) (by omega)
      have HML := Lib.hid (Nat.le_trans hm HLN.out)
      generalize ws[k] = x at *
      have HSZ : Hid ((strOf x.txt).size + (strOf (joinL (ws.take k))).size ≤ 90000) := Lib.hid (by
        have h1 := HML.out
        rw [hj] at h1
        rw [strOf_size, strOf_size]
        unfold outW at h1
        by_cases h0 : k = 0
        · subst h0
          rw [if_pos rfl] at h1
          rw [List.take_zero]
          show _ + 0 ≤ _
          split at h1 <;> (try simp only [List.length_cons, List.length_append, List.length_nil] at h1) <;> omega
        · rw [if_neg h0, List.length_append] at h1
          split at h1 <;> (try simp only [List.length_cons, List.length_append, List.length_nil] at h1) <;> omega)
      have hs1 : (strOf x.txt).size ≤ 90000 := by have := HSZ.out; omega
      have hs2 : (strOf (joinL (ws.take k))).size ≤ 90000 := by have := HSZ.out; omega
      have HX47 : Hid ((⟨#[47]⟩ : ByteArray) = strOf [47]) := Lib.hid rfl
      have HX32 : Hid ((⟨#[32]⟩ : ByteArray) = strOf [32]) := Lib.hid rfl
      by_cases h2 : x.kind = 2
      · have e2 : (x.kind == 2) = true := i_yes h2
        have ho : outW x = 47 :: (x.txt ++ [47]) := by unfold outW; rw [if_pos h2]
        by_cases h0 : k = 0
        · subst h0
          simp only [Nat.zero_mul, Nat.add_zero] at c0 c1 c2
          have HJ : Hid (strOf (joinL []) ++ (⟨#[47]⟩ ++ strOf x.txt ++ ⟨#[47]⟩) = strOf (joinL (ws.take 1))) := Lib.hid (by
            have hj : joinL (ws.take 1) = _ := hj
            rw [HX47.out, strOf_cat, strOf_cat, strOf_cat, hj, if_pos rfl, ho]; rfl)
          have hs3 : (strOf (joinL [])).size ≤ 90000 := by rw [strOf_size]; exact Nat.zero_le _
          clear hj hm h2 ho
          go_wp2
          exact ⟨⟨1, rfl, hlt, congrArg Value.string HJ.out, trivial⟩, by simp only [intOf]; omega⟩
        · have d1 : decide ((k : Int) > 0) = true := decide_eq_true (by omega)
          have d2 : decide ((0 : Int) < k) = true := decide_eq_true (by omega)
          have d3 : 0 < k := by omega
          have HJ : Hid (strOf (joinL (ws.take k)) ++ ⟨#[32]⟩ ++ (⟨#[47]⟩ ++ strOf x.txt ++ ⟨#[47]⟩) = strOf (joinL (ws.take (k + 1)))) := Lib.hid (by
            rw [HX47.out, HX32.out, strOf_cat, strOf_cat, strOf_cat, strOf_cat, hj, if_neg h0, ho, List.append_assoc]; rfl)
          clear hj hm h2 ho h0
          go_wp2
          exact ⟨⟨k + 1, by simp, hlt, congrArg Value.string HJ.out, trivial⟩, by simp only [intOf]; omega⟩
      · have e2 : (x.kind == 2) = false := i_no h2
        have ho : outW x = x.txt := by unfold outW; rw [if_neg h2]
        by_cases h0 : k = 0
        · subst h0
          simp only [Nat.zero_mul, Nat.add_zero] at c0 c1 c2
          have HJ : Hid (strOf (joinL []) ++ strOf x.txt = strOf (joinL (ws.take 1))) := Lib.hid (by
            have hj : joinL (ws.take 1) = _ := hj
            rw [strOf_cat, hj, if_pos rfl, ho]; rfl)
          have hs3 : (strOf (joinL [])).size ≤ 90000 := by rw [strOf_size]; exact Nat.zero_le _
          clear hj hm h2 ho
          go_wp2
          exact ⟨⟨1, rfl, hlt, congrArg Value.string HJ.out, trivial⟩, by simp only [intOf]; omega⟩
        · have d1 : decide ((k : Int) > 0) = true := decide_eq_true (by omega)
          have d2 : decide ((0 : Int) < k) = true := decide_eq_true (by omega)
          have d3 : 0 < k := by omega
          have HJ : Hid (strOf (joinL (ws.take k)) ++ ⟨#[32]⟩ ++ strOf x.txt = strOf (joinL (ws.take (k + 1)))) := Lib.hid (by
            rw [HX32.out, strOf_cat, strOf_cat, hj, if_neg h0, ho, List.append_assoc]; rfl)
          clear hj hm h2 ho h0
          go_wp2
          exact ⟨⟨k + 1, by simp, hlt, congrArg Value.string HJ.out, trivial⟩, by simp only [intOf]; omega⟩
    · obtain rfl : k = ws.length := by omega
      have hd : decide ((ws.length : Int) < ws.length) = false := by simp
      go_wp2
      go_ret
      exact ⟨by rw [List.take_of_length_le (Nat.le_refl _)]; rfl, rfl⟩
set_option maxHeartbeats 8000000 in
theorem plain_any (v : Value) (ws : List Wd) (w : World) (h : WsAt w v ws) (hn : ws.length ≤ 100000) :
    Calls Try.prog 11 #[v] w fun e w' => ∃ u, e = .returned u ∧ Hid (w'.ownsRow w.heap.size 45 3 u ws.length (flatW ws)) ∧ Hid (Below w.heap.size w w') := by
  have mixed := mixed12
  obtain ⟨i0, hi, hz0, hz1, hz2⟩ := info_parts infoW
  have HI := Lib.hid (⟨hi, hz0, hz1, hz2⟩ : _ ∧ _ ∧ _ ∧ _)
  clear hi hz0 hz1 hz2
  have HA := Lib.hid h
  obtain ⟨a, c, rfl, hc, _⟩ := h
  obtain ⟨N, hN⟩ : ∃ N, w.heap.size = N := ⟨_, rfl⟩
  have HN := Lib.hid hN
  rw [hN]
  clear hN
  go_enter Try.func11, Try.ntmps11
  go_wp2
  go_loopw [3, 4] (fun u z wr => ∃ (k : Nat) (va : Option Addr) (vc : Nat), u = .slice va k vc ∧ z = .int .i64 k ∧ k ≤ ws.length ∧ Hid (wr.ownsRow N 45 3 (.slice va k vc) k (flatW (ws.take k))) ∧ Hid (Below N w wr)) (fun _ z _ => ws.length - (intOf z).toNat)
  case atStart => exact ⟨0, none, 0, rfl, rfl, Nat.zero_le _, Lib.hid (World.ownsRow_nil _ _ _ _), Lib.hid (Below.refl _ _)⟩
  case round =>
    obtain ⟨k, va, vc, rfl, rfl, hk, HR, HB⟩ := hrel
    by_cases hlt : k < ws.length
    · have hd : decide ((k : Int) < ws.length) = true := decide_eq_true (by omega)
      have hki : (k : Int) < ws.length := by omega
      obtain ⟨b, o, rfl, c0, c1, c2⟩ := HA.out.at hlt
      have hbl : b < N := by have : b < w.heap.size := cell_lt c0; have := HN.out; omega
      have d0 := (HB.out.cell (p := ⟨b, o + k * 3, none⟩) hbl).trans c0
      have d1 := (HB.out.cell (p := ⟨b, o + k * 3 + 1, none⟩) hbl).trans c1
      have d2 := (HB.out.cell (p := ⟨b, o + k * 3 + 2, none⟩) hbl).trans c2
      have HT : Hid (flatW (ws.take (k + 1)) = flatW (ws.take k) ++ wdC ws[k]) := Lib.hid (by rw [List.take_succ_eq_append_getElem hlt, flatW_snoc])
      have hNr : N ≤ wr.heap.size := by have := HB.out.size; have := HN.out; omega
      have HNR := Lib.hid hNr
      generalize ws[k] = x at *
      have HRA := Lib.hid (HR.out.alloc (.cells #[.int .i64 x.kind, .string (strOf x.txt), .int .i64 (x.pos : Nat)] 45))
      clear c0 c1 c2 hNr
      go_wp2_with fail
      go_region_law (refine step_append_lies _ rfl (.tmp 11) (.tmp 28) 27 rfl N 45 i0 (.agg #[.int .i64 0, .string ⟨#[]⟩, .int .i64 0]) 3 32 Try.underlying27 HI.out.1 HI.out.2.1 HI.out.2.2.1 HI.out.2.2.2 rfl (by decide) (.slice va k vc) k (flatW (ws.take k)) rfl HRA.out ⟨wr.heap.size, 0, none⟩ 1 1 (wdC x) rfl rfl (news_wd (heap_alloc_new wr _)) (by simp [wdC, Value.oneCell']) (by omega) (by unfold maxLen; omega) (by omega) (by have := HNR.out; simp; omega) (wr.heap.size + 1) (by simp) ?_; intro g9 cap9 w8 h2 h3 h4 h5)
      all_goals
        have HR8 := Lib.hid h2
        have HB8 : Hid (Below N w w8) := Lib.hid (push_words HB.out HR.out HNR.out (by first | exact new_one wr _ | exact (new_one wr _).drew) h3)
        clear h2 h3 h4 h5
        go_wp2
        go_roundw
        case rel => exact ⟨k + 1, _, _, rfl, by simp, hlt, Lib.hid (by rw [HT.out]; exact HR8.out), HB8⟩
        case measure => simp only [intOf]; omega
    · obtain rfl : k = ws.length := by omega
      have hd : decide ((ws.length : Int) < ws.length) = false := by simp
      have HR2 : Hid (wr.ownsRow N 45 3 (.slice va ws.length vc) ws.length (flatW ws)) := Lib.hid (by have := HR.out; rw [List.take_of_length_le (Nat.le_refl _)] at this; exact this)
      go_wp2
      go_ret
      exact ⟨_, rfl, HR2, HB⟩
end Go.Proofs.Ytplgnbedcjanhaa
