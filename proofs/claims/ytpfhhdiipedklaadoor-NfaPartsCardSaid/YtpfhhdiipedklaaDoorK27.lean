/- Texts that a proof rests on: A case of the round of homographref02.Make. | A case of the round of homographref02.Make. | A case of the round of homographref02.Make. | A case of the round of homographref02.Make. | A case of the round of homographref02.Make. | A case of the round of homographref02.Make. -/
import Derived.Test.YtpfhhdiipedklaaDoorK14
import Derived.Deep.CutRange
set_option maxRecDepth 100000
namespace Go.Proofs.YtpfhhdiipedklaaDoor
open Go.RowKit

set_option maxHeartbeats 8000000 in
theorem mk_cat (s : ByteArray) (w wr : World) (hlen : s.size ≤ 1000) (k : Nat) (L : List (Pat × Value)) (a : Option Addr) (cap : Nat) (hlt : k < s.size) (HSZ : Hid (Pat.sizes (L.map Prod.fst) ≤ k)) (HOK : Hid (okS s (L.map Prod.fst) = true))
    (hrow : NRow wr (w.heap.size + 1) (.slice a L.length cap) L) (hz : Box wr w.heap.size z8) (hbw : Below w.heap.size w wr) (hcase : s[k].toNat % 8 = 3 ∧ 1 < L.length) (K : Act → World → Prop) (t1 t5 t6 t7 t8 t9 t10 t11 t12 t13 t14 t15 t16 t17 t18 t19 t20 t21 t22 t23 t24 t25 t26 t27 t28 t29 t30 t31 t32 t33 t34 t35 t36 t37 t38 t39 t40 t41 t42 t43 t44 t45 t46 t47 t48 t49 t50 t51 t52 t53 t54 t55 t56 t57 t58 t59 t60 t61 t62 t63 t64 t65 t66 t67 t68 t69 t70 t71 t72 t73 t74 t75 t76 t77 t78 t79 t80 t81 t82 t83 t84 t85 t86 t87 t88 t89 t90 t91 t92 t93 t94 t95 t96 t97 t98 t99 t100 t101 t102 t103 t104 t105 t106 t107 t108 t109 t110 t111 t112 t113 t114 t115 t116 t117 t118 t119 t120 t121 t122 t123 t124 t125 t126 t127 t128 t129 t130 t131 t132 t133 t134 t135 t136 t137 t138 t139 t140 t141 t142 t143 t144 t145 t146 t147 t148 t149 t150 t151 t152 t153 t154 t155 t156 t157 t158 t159 t160 t161 t162 t163 t164 t165 t166 t167 t168 t169 t170 t171 t172 t173 t174 t175 t176 t177 t178 t179 t180 t181 t182 t183 t184 t185 t186 t187 t188 t189 t190 t191 t192 t193 t194 : Value)
    (HK : Hid (∀ (v5 v6 v7 v8 v9 v10 v11 v12 v13 v14 v15 v16 v17 v18 v19 v20 v21 v22 v23 v24 v25 v26 v27 v28 v29 v30 v31 v32 v33 v34 v35 v36 v37 v38 v39 v40 v41 v42 v43 v44 v45 v46 v47 v48 v49 v50 v51 v52 v53 v54 v55 v56 v57 v58 v59 v60 v61 v62 v63 v64 v65 v66 v67 v68 v69 v70 v71 v72 v73 v74 v75 v76 v77 v78 v79 v80 v81 v82 v83 v84 v85 v86 v87 v88 v89 v90 v91 v92 v93 v94 v95 v96 v97 v98 v99 v100 v101 v102 v103 v104 v105 v106 v107 v108 v109 v110 v111 v112 v113 v114 v115 v116 v117 v118 v119 v120 v121 v122 v123 v124 v125 v126 v127 v128 v129 v130 v131 v132 v133 v134 v135 v136 v137 v138 v139 v140 v141 v142 v143 v144 v145 v146 v147 v148 v149 v150 v151 v152 v153 v154 v155 v156 v157 v158 v159 v160 v161 v162 v163 v164 v165 v166 v167 v168 v169 v170 v171 v172 v173 v174 v175 v176 v177 v178 v179 v180 v181 v182 v183 v184 v185 v186 : Value) (v : Value) (w' : World), MkRel s w (k + 1) v w' → K ⟨#[.string s, t1, .pointer (some ⟨w.heap.size, 0, none⟩), v, .int .i64 (↑k + 1), v5, v6, v7, v8, v9, v10, v11, v12, v13, v14, v15, v16, v17, v18, v19, v20, v21, v22, v23, v24, v25, v26, v27, v28, v29, v30, v31, v32, v33, v34, v35, v36, v37, v38, v39, v40, v41, v42, v43, v44, v45, v46, v47, v48, v49, v50, v51, v52, v53, v54, v55, v56, v57, v58, v59, v60, v61, v62, v63, v64, v65, v66, v67, v68, v69, v70, v71, v72, v73, v74, v75, v76, v77, v78, v79, v80, v81, v82, v83, v84, v85, v86, v87, v88, v89, v90, v91, v92, v93, v94, v95, v96, v97, v98, v99, v100, v101, v102, v103, v104, v105, v106, v107, v108, v109, v110, v111, v112, v113, v114, v115, v116, v117, v118, v119, v120, v121, v122, v123, v124, v125, v126, v127, v128, v129, v130, v131, v132, v133, v134, v135, v136, v137, v138, v139, v140, v141, v142, v143, v144, v145, v146, v147, v148, v149, v150, v151, v152, v153, v154, v155, v156, v157, v158, v159, v160, v161, v162, v163, v164, v165, v166, v167, v168, v169, v170, v171, v172, v173, v174, v175, v176, v177, v178, v179, v180, v181, v182, v183, v184, v185, v186, t187, t188, t189, t190, t191, t192, t193, t194], []⟩ w')) :
    Code.wp Tryd.prog mkBody (Exit.then K (fun _ _ _ => False)) ⟨#[.string s, t1, .pointer (some ⟨w.heap.size, 0, none⟩), .slice a L.length cap, .int .i64 k, t5, t6, t7, t8, t9, t10, t11, t12, t13, t14, t15, t16, t17, t18, t19, t20, t21, t22, t23, t24, t25, t26, t27, t28, t29, t30, t31, t32, t33, t34, t35, t36, t37, t38, t39, t40, t41, t42, t43, t44, t45, t46, t47, t48, t49, t50, t51, t52, t53, t54, t55, t56, t57, t58, t59, t60, t61, t62, t63, t64, t65, t66, t67, t68, t69, t70, t71, t72, t73, t74, t75, t76, t77, t78, t79, t80, t81, t82, t83, t84, t85, t86, t87, t88, t89, t90, t91, t92, t93, t94, t95, t96, t97, t98, t99, t100, t101, t102, t103, t104, t105, t106, t107, t108, t109, t110, t111, t112, t113, t114, t115, t116, t117, t118, t119, t120, t121, t122, t123, t124, t125, t126, t127, t128, t129, t130, t131, t132, t133, t134, t135, t136, t137, t138, t139, t140, t141, t142, t143, t144, t145, t146, t147, t148, t149, t150, t151, t152, t153, t154, t155, t156, t157, t158, t159, t160, t161, t162, t163, t164, t165, t166, t167, t168, t169, t170, t171, t172, t173, t174, t175, t176, t177, t178, t179, t180, t181, t182, t183, t184, t185, t186, t187, t188, t189, t190, t191, t192, t193, t194], []⟩ wr := by
  conv => arg 2; whnf
  obtain ⟨i0, hi, hy0, hy1, hy2⟩ := info_parts infoNode
  have hls := hz.lt
  have hll : L.length ≤ k := by have := length_sizes (L.map Prod.fst); have := HSZ.out; simp at *; omega
  have hcl : s[k].toNat < 256 := s[k].toNat_lt
  have hcm : s[k].toNat % 8 < 8 := Nat.mod_lt _ (by omega)
  go_wp2_with fail
  go_at_call 38
  refine (rwith_zero (97 + s[k].toNat / 8 % 3) (by omega) _).mono ?_
  rintro e w1 ⟨rfl, hb1⟩
  go_wp2_with fail
  go_at_call 19
  refine (rset_any _ _).mono ?_
  rintro e w2 ⟨rfl, hb2⟩
  have hrow2 := (hrow.below hb1).below hb2
  have hz2 := (hz.below hb1).below hb2
  have hlz := hz2.lt
  have hbw2 : Below w.heap.size w w2 := by have h1 := hbw.trans (hb1.mono hbw.size); exact h1.trans (hb2.mono h1.size)
  clear hb1 hb2 hrow hz hbw w1 hls
  generalize s[k].toNat = c at *
  obtain ⟨w3, hw3⟩ : ∃ w3, w3 = w2.alloc (.cells #[.int .i64 (Pat.mk 0 (put (0#256) (97 + c / 8 % 3)) 0 0 []).op, .int .u64 (wd (Pat.mk 0 (put (0#256) (97 + c / 8 % 3)) 0 0 []).set 0), .int .u64 (wd (Pat.mk 0 (put (0#256) (97 + c / 8 % 3)) 0 0 []).set 1), .int .u64 (wd (Pat.mk 0 (put (0#256) (97 + c / 8 % 3)) 0 0 []).set 2), .int .u64 (wd (Pat.mk 0 (put (0#256) (97 + c / 8 % 3)) 0 0 []).set 3), .int .i64 (Pat.mk 0 (put (0#256) (97 + c / 8 % 3)) 0 0 []).lo, .int .i64 (Pat.mk 0 (put (0#256) (97 + c / 8 % 3)) 0 0 []).hi, .slice none 0 0] 36) := ⟨_, rfl⟩
  have hal : Below w2.heap.size w2 w3 := by rw [hw3]; exact (Below.refl _ _).alloc (Nat.le_refl _) _
  have hrow3 := hrow2.below hal
  have hz3 := hz2.below hal
  have hbw3 := below_step hbw2 hal
  have hlz3 := hz3.lt
  obtain ⟨hr, hl⟩ := hcase
  obtain ⟨L0, ⟨x1, x2⟩, ⟨y1, y2⟩, rfl⟩ := split_two L hl
  obtain ⟨m, hm⟩ : ∃ m, L0.length = m := ⟨_, rfl⟩
  obtain ⟨n, hn⟩ : ∃ n, n = m + 2 := ⟨_, rfl⟩
  obtain ⟨m1, hm1⟩ : ∃ m1, m1 = m + 1 := ⟨_, rfl⟩
  have hm2 : (L0 ++ [(x1, x2), (y1, y2)]).length = n := by simp [hm, hn]
  have hmn : m < n := by omega
  have hmn1 : m1 < n := by omega
  have hn1 : 1 < n := by omega
  have hmm : m < m1 := by omega
  have hwr2 : IntKind.i64.wrap ((n : Int) - 2) = (m : Int) := by rw [IntKind.wrap_i64]; omega
  have hwr1 : IntKind.i64.wrap ((n : Int) - 1) = (m1 : Int) := by rw [IntKind.wrap_i64]; omega
  have hj0 : (0 : Int) ≤ (m : Int) := by omega
  have hj1 : (m : Int) < (n : Int) := by omega
  have hj2 : (0 : Int) ≤ (m1 : Int) := by omega
  have hj3 : (m1 : Int) < (n : Int) := by omega
  have HN := Lib.hid hn
  have HM1 := Lib.hid hm1
  clear hn
  rw [hm2] at hrow2 hrow3 hll ⊢
  clear hl
  obtain ⟨g, cap2, e, hg1, hg2, hcap⟩ := hrow3.block (by simp)
  rw [hm2] at e hcap
  cases e
  obtain ⟨e0, e1, e2, e3, e4, e5, e6, e7⟩ := hrow3.load hm2 m (by omega)
  obtain ⟨f0, f1, f2, f3, f4, f5, f6, f7⟩ := hrow3.load hm2 m1 (by omega)
  have hx : (L0 ++ [(x1, x2), (y1, y2)])[m] = (x1, x2) := by simp [← hm]
  have hy : (L0 ++ [(x1, x2), (y1, y2)])[m1] = (y1, y2) := by simp [← hm, hm1]
  rw [hx] at e0 e1 e2 e3 e4 e5 e6 e7
  rw [hy] at f0 f1 f2 f3 f4 f5 f6 f7
  clear hx hy hm1
  have hkx : Kids (mask w3 (w.heap.size + 1) (some g)) x1.kids x2 := hrow3.2 (x1, x2) (by simp)
  have hky : Kids (mask w3 (w.heap.size + 1) (some g)) y1.kids y2 := hrow3.2 (y1, y2) (by simp)
  obtain ⟨xa, xc, ex⟩ := hkx.len
  obtain ⟨ya, yc, ey⟩ := hky.len
  subst ex ey
  have hbg : w.heap.size + 1 ≤ w3.heap.size := by omega
  have HM2 := Lib.hid hm2
  have HM := Lib.hid hm
  go_upto_region 10 with fail
  rw [← hw3]
  clear hw3 hrow2 hz2 hbw2 hlz hm2 hm hal
  go_cut [8] from 13 to 186 (fun s8 wx => ∃ (b8 n8 : Nat), s8 = .pointer (some ⟨b8, 0, none⟩) ∧ Hid (Aft w3 wx (w.heap.size + 1) g b8 (Pat.mk 1 0 0 0 [x1, y1]) (.slice (some ⟨n8, 0, none⟩) 2 2)))
  case first =>
    refine Code.wp_mono then_false (reg10_any _ w3 (w.heap.size + 1) g n m m1 cap x1 y1 xa ya xc yc hwr2 hwr1 hj0 hj1 hj2 hj3 hg2 hbg e0 e1 e2 e3 e4 e5 e6 e7 f0 f1 f2 f3 f4 f5 f6 f7 hkx hky _ _ _ _ _ _ _ _ _ _ _ _ _ _ _ _ _ _ _ _ _ _ _ _ _ _ _ _ _ _ _ _ _ _ _ _ _ _ _ _ _ _ _ _ _ _ _ _ _ _ _ _ _ _ _ _ _ _ _ _ _ _ _ _ _ _ _ _ _ _ _ _ _ _ _ _ _ _ _ _ _ _ _ _ _ _ _ _ _ _ _ _ _ _ _ _ _ _ _ _ _ _ _ _ _ _ _ _ _ _ _ _ _ _ _ _ _ _ _ _ _ _ _ _ _ _ _ _ _ _ _ _ _ _ _ _ _ _ _ _ _ _ _ _ _ _ _ _ _ _ _ _ _ _ _ _ _ _ _ _ _ _ _ _ _ _ _ _ _ _ _ _ _ _ _ _ _ _ _ _ _ _ _ _ _ _ _ _ _ _ _ _ _ ?_)
    clear e0 e1 e2 e3 e4 e5 e6 e7 f0 f1 f2 f3 f4 f5 f6 f7 hrow3 hz3 hbw3 hkx hky
    intro v0 v1 v2 v3 v4 v5 v6 v7 v8 v9 v10 v11 b8 n8 wx HA
    dsimp only
    go_wp2_with fail
    go_meet
    exact ⟨_, _, rfl, HA⟩
  case rest =>
    obtain ⟨b8, n8, rfl, HA⟩ := hcut
    obtain ⟨hB6, hbx6, hK6⟩ := HA.out
    clear HA
    have hrow6 := hrow3.below hB6
    have hz6 := hz3.below hB6
    have hbw6 := below_step hbw3 hB6
    clear hB6 hrow3 hz3 hbw3 hkx hky e0 e1 e2 e3 e4 e5 e6 e7 f0 f1 f2 f3 f4 f5 f6 f7
    obtain ⟨p0, p1, p2, p3, p4, p5, p6, p7⟩ := hbx6.cells
    obtain ⟨r0, r1, r2, r3, r4, r5, r6, r7⟩ := hrow6.load HM2.out m (by have := HM2.out; omega)
    have fr := hrow6.free HM2.out
    go_wp2_with fail
    refine HK.out _ _ _ _ _ _ _ _ _ _ _ _ _ _ _ _ _ _ _ _ _ _ _ _ _ _ _ _ _ _ _ _ _ _ _ _ _ _ _ _ _ _ _ _ _ _ _ _ _ _ _ _ _ _ _ _ _ _ _ _ _ _ _ _ _ _ _ _ _ _ _ _ _ _ _ _ _ _ _ _ _ _ _ _ _ _ _ _ _ _ _ _ _ _ _ _ _ _ _ _ _ _ _ _ _ _ _ _ _ _ _ _ _ _ _ _ _ _ _ _ _ _ _ _ _ _ _ _ _ _ _ _ _ _ _ _ _ _ _ _ _ _ _ _ _ _ _ _ _ _ _ _ _ _ _ _ _ _ _ _ _ _ _ _ _ _ _ _ _ _ _ _ _ _ _ _ _ _ _ _ _ _ _ _ ?_
    exact two_end HM.out HN.out HM1.out hlt hrow6 hz6 hbw6 hK6 HSZ.out HOK.out (by rfl) (fun _ => by decide)
end Go.Proofs.YtpfhhdiipedklaaDoor
set_option maxRecDepth 100000
namespace Go.Proofs.YtpfhhdiipedklaaDoor
open Go.RowKit

set_option maxHeartbeats 8000000 in
theorem mk_alt (s : ByteArray) (w wr : World) (hlen : s.size ≤ 1000) (k : Nat) (L : List (Pat × Value)) (a : Option Addr) (cap : Nat) (hlt : k < s.size) (HSZ : Hid (Pat.sizes (L.map Prod.fst) ≤ k)) (HOK : Hid (okS s (L.map Prod.fst) = true))
    (hrow : NRow wr (w.heap.size + 1) (.slice a L.length cap) L) (hz : Box wr w.heap.size z8) (hbw : Below w.heap.size w wr) (hcase : s[k].toNat % 8 = 4 ∧ 1 < L.length) (K : Act → World → Prop) (t1 t5 t6 t7 t8 t9 t10 t11 t12 t13 t14 t15 t16 t17 t18 t19 t20 t21 t22 t23 t24 t25 t26 t27 t28 t29 t30 t31 t32 t33 t34 t35 t36 t37 t38 t39 t40 t41 t42 t43 t44 t45 t46 t47 t48 t49 t50 t51 t52 t53 t54 t55 t56 t57 t58 t59 t60 t61 t62 t63 t64 t65 t66 t67 t68 t69 t70 t71 t72 t73 t74 t75 t76 t77 t78 t79 t80 t81 t82 t83 t84 t85 t86 t87 t88 t89 t90 t91 t92 t93 t94 t95 t96 t97 t98 t99 t100 t101 t102 t103 t104 t105 t106 t107 t108 t109 t110 t111 t112 t113 t114 t115 t116 t117 t118 t119 t120 t121 t122 t123 t124 t125 t126 t127 t128 t129 t130 t131 t132 t133 t134 t135 t136 t137 t138 t139 t140 t141 t142 t143 t144 t145 t146 t147 t148 t149 t150 t151 t152 t153 t154 t155 t156 t157 t158 t159 t160 t161 t162 t163 t164 t165 t166 t167 t168 t169 t170 t171 t172 t173 t174 t175 t176 t177 t178 t179 t180 t181 t182 t183 t184 t185 t186 t187 t188 t189 t190 t191 t192 t193 t194 : Value)
    (HK : Hid (∀ (v5 v6 v7 v8 v9 v10 v11 v12 v13 v14 v15 v16 v17 v18 v19 v20 v21 v22 v23 v24 v25 v26 v27 v28 v29 v30 v31 v32 v33 v34 v35 v36 v37 v38 v39 v40 v41 v42 v43 v44 v45 v46 v47 v48 v49 v50 v51 v52 v53 v54 v55 v56 v57 v58 v59 v60 v61 v62 v63 v64 v65 v66 v67 v68 v69 v70 v71 v72 v73 v74 v75 v76 v77 v78 v79 v80 v81 v82 v83 v84 v85 v86 v87 v88 v89 v90 v91 v92 v93 v94 v95 v96 v97 v98 v99 v100 v101 v102 v103 v104 v105 v106 v107 v108 v109 v110 v111 v112 v113 v114 v115 v116 v117 v118 v119 v120 v121 v122 v123 v124 v125 v126 v127 v128 v129 v130 v131 v132 v133 v134 v135 v136 v137 v138 v139 v140 v141 v142 v143 v144 v145 v146 v147 v148 v149 v150 v151 v152 v153 v154 v155 v156 v157 v158 v159 v160 v161 v162 v163 v164 v165 v166 v167 v168 v169 v170 v171 v172 v173 v174 v175 v176 v177 v178 v179 v180 v181 v182 v183 v184 v185 v186 : Value) (v : Value) (w' : World), MkRel s w (k + 1) v w' → K ⟨#[.string s, t1, .pointer (some ⟨w.heap.size, 0, none⟩), v, .int .i64 (↑k + 1), v5, v6, v7, v8, v9, v10, v11, v12, v13, v14, v15, v16, v17, v18, v19, v20, v21, v22, v23, v24, v25, v26, v27, v28, v29, v30, v31, v32, v33, v34, v35, v36, v37, v38, v39, v40, v41, v42, v43, v44, v45, v46, v47, v48, v49, v50, v51, v52, v53, v54, v55, v56, v57, v58, v59, v60, v61, v62, v63, v64, v65, v66, v67, v68, v69, v70, v71, v72, v73, v74, v75, v76, v77, v78, v79, v80, v81, v82, v83, v84, v85, v86, v87, v88, v89, v90, v91, v92, v93, v94, v95, v96, v97, v98, v99, v100, v101, v102, v103, v104, v105, v106, v107, v108, v109, v110, v111, v112, v113, v114, v115, v116, v117, v118, v119, v120, v121, v122, v123, v124, v125, v126, v127, v128, v129, v130, v131, v132, v133, v134, v135, v136, v137, v138, v139, v140, v141, v142, v143, v144, v145, v146, v147, v148, v149, v150, v151, v152, v153, v154, v155, v156, v157, v158, v159, v160, v161, v162, v163, v164, v165, v166, v167, v168, v169, v170, v171, v172, v173, v174, v175, v176, v177, v178, v179, v180, v181, v182, v183, v184, v185, v186, t187, t188, t189, t190, t191, t192, t193, t194], []⟩ w')) :
    Code.wp Tryd.prog mkBody (Exit.then K (fun _ _ _ => False)) ⟨#[.string s, t1, .pointer (some ⟨w.heap.size, 0, none⟩), .slice a L.length cap, .int .i64 k, t5, t6, t7, t8, t9, t10, t11, t12, t13, t14, t15, t16, t17, t18, t19, t20, t21, t22, t23, t24, t25, t26, t27, t28, t29, t30, t31, t32, t33, t34, t35, t36, t37, t38, t39, t40, t41, t42, t43, t44, t45, t46, t47, t48, t49, t50, t51, t52, t53, t54, t55, t56, t57, t58, t59, t60, t61, t62, t63, t64, t65, t66, t67, t68, t69, t70, t71, t72, t73, t74, t75, t76, t77, t78, t79, t80, t81, t82, t83, t84, t85, t86, t87, t88, t89, t90, t91, t92, t93, t94, t95, t96, t97, t98, t99, t100, t101, t102, t103, t104, t105, t106, t107, t108, t109, t110, t111, t112, t113, t114, t115, t116, t117, t118, t119, t120, t121, t122, t123, t124, t125, t126, t127, t128, t129, t130, t131, t132, t133, t134, t135, t136, t137, t138, t139, t140, t141, t142, t143, t144, t145, t146, t147, t148, t149, t150, t151, t152, t153, t154, t155, t156, t157, t158, t159, t160, t161, t162, t163, t164, t165, t166, t167, t168, t169, t170, t171, t172, t173, t174, t175, t176, t177, t178, t179, t180, t181, t182, t183, t184, t185, t186, t187, t188, t189, t190, t191, t192, t193, t194], []⟩ wr := by
  conv => arg 2; whnf
  obtain ⟨i0, hi, hy0, hy1, hy2⟩ := info_parts infoNode
  have hls := hz.lt
  have hll : L.length ≤ k := by have := length_sizes (L.map Prod.fst); have := HSZ.out; simp at *; omega
  have hcl : s[k].toNat < 256 := s[k].toNat_lt
  have hcm : s[k].toNat % 8 < 8 := Nat.mod_lt _ (by omega)
  go_wp2_with fail
  go_at_call 38
  refine (rwith_zero (97 + s[k].toNat / 8 % 3) (by omega) _).mono ?_
  rintro e w1 ⟨rfl, hb1⟩
  go_wp2_with fail
  go_at_call 19
  refine (rset_any _ _).mono ?_
  rintro e w2 ⟨rfl, hb2⟩
  have hrow2 := (hrow.below hb1).below hb2
  have hz2 := (hz.below hb1).below hb2
  have hlz := hz2.lt
  have hbw2 : Below w.heap.size w w2 := by have h1 := hbw.trans (hb1.mono hbw.size); exact h1.trans (hb2.mono h1.size)
  clear hb1 hb2 hrow hz hbw w1 hls
  generalize s[k].toNat = c at *
  obtain ⟨w3, hw3⟩ : ∃ w3, w3 = w2.alloc (.cells #[.int .i64 (Pat.mk 0 (put (0#256) (97 + c / 8 % 3)) 0 0 []).op, .int .u64 (wd (Pat.mk 0 (put (0#256) (97 + c / 8 % 3)) 0 0 []).set 0), .int .u64 (wd (Pat.mk 0 (put (0#256) (97 + c / 8 % 3)) 0 0 []).set 1), .int .u64 (wd (Pat.mk 0 (put (0#256) (97 + c / 8 % 3)) 0 0 []).set 2), .int .u64 (wd (Pat.mk 0 (put (0#256) (97 + c / 8 % 3)) 0 0 []).set 3), .int .i64 (Pat.mk 0 (put (0#256) (97 + c / 8 % 3)) 0 0 []).lo, .int .i64 (Pat.mk 0 (put (0#256) (97 + c / 8 % 3)) 0 0 []).hi, .slice none 0 0] 36) := ⟨_, rfl⟩
  have hal : Below w2.heap.size w2 w3 := by rw [hw3]; exact (Below.refl _ _).alloc (Nat.le_refl _) _
  have hrow3 := hrow2.below hal
  have hz3 := hz2.below hal
  have hbw3 := below_step hbw2 hal
  have hlz3 := hz3.lt
  obtain ⟨hr, hl⟩ := hcase
  obtain ⟨L0, ⟨x1, x2⟩, ⟨y1, y2⟩, rfl⟩ := split_two L hl
  obtain ⟨m, hm⟩ : ∃ m, L0.length = m := ⟨_, rfl⟩
  obtain ⟨n, hn⟩ : ∃ n, n = m + 2 := ⟨_, rfl⟩
  obtain ⟨m1, hm1⟩ : ∃ m1, m1 = m + 1 := ⟨_, rfl⟩
  have hm2 : (L0 ++ [(x1, x2), (y1, y2)]).length = n := by simp [hm, hn]
  have hmn : m < n := by omega
  have hmn1 : m1 < n := by omega
  have hn1 : 1 < n := by omega
  have hmm : m < m1 := by omega
  have hwr2 : IntKind.i64.wrap ((n : Int) - 2) = (m : Int) := by rw [IntKind.wrap_i64]; omega
  have hwr1 : IntKind.i64.wrap ((n : Int) - 1) = (m1 : Int) := by rw [IntKind.wrap_i64]; omega
  have hj0 : (0 : Int) ≤ (m : Int) := by omega
  have hj1 : (m : Int) < (n : Int) := by omega
  have hj2 : (0 : Int) ≤ (m1 : Int) := by omega
  have hj3 : (m1 : Int) < (n : Int) := by omega
  have HN := Lib.hid hn
  have HM1 := Lib.hid hm1
  clear hn
  rw [hm2] at hrow2 hrow3 hll ⊢
  clear hl
  obtain ⟨g, cap2, e, hg1, hg2, hcap⟩ := hrow3.block (by simp)
  rw [hm2] at e hcap
  cases e
  obtain ⟨e0, e1, e2, e3, e4, e5, e6, e7⟩ := hrow3.load hm2 m (by omega)
  obtain ⟨f0, f1, f2, f3, f4, f5, f6, f7⟩ := hrow3.load hm2 m1 (by omega)
  have hx : (L0 ++ [(x1, x2), (y1, y2)])[m] = (x1, x2) := by simp [← hm]
  have hy : (L0 ++ [(x1, x2), (y1, y2)])[m1] = (y1, y2) := by simp [← hm, hm1]
  rw [hx] at e0 e1 e2 e3 e4 e5 e6 e7
  rw [hy] at f0 f1 f2 f3 f4 f5 f6 f7
  clear hx hy hm1
  have hkx : Kids (mask w3 (w.heap.size + 1) (some g)) x1.kids x2 := hrow3.2 (x1, x2) (by simp)
  have hky : Kids (mask w3 (w.heap.size + 1) (some g)) y1.kids y2 := hrow3.2 (y1, y2) (by simp)
  obtain ⟨xa, xc, ex⟩ := hkx.len
  obtain ⟨ya, yc, ey⟩ := hky.len
  subst ex ey
  have hbg : w.heap.size + 1 ≤ w3.heap.size := by omega
  have HM2 := Lib.hid hm2
  have HM := Lib.hid hm
  go_upto_region 14 with fail
  rw [← hw3]
  clear hw3 hrow2 hz2 hbw2 hlz hm2 hm hal
  go_cut [9] from 13 to 186 (fun s8 wx => ∃ (b8 n8 : Nat), s8 = .pointer (some ⟨b8, 0, none⟩) ∧ Hid (Aft w3 wx (w.heap.size + 1) g b8 (Pat.mk 2 0 0 0 [x1, y1]) (.slice (some ⟨n8, 0, none⟩) 2 2)))
  case first =>
    refine Code.wp_mono then_false (reg14_any _ w3 (w.heap.size + 1) g n m m1 cap x1 y1 xa ya xc yc hwr2 hwr1 hj0 hj1 hj2 hj3 hg2 hbg e0 e1 e2 e3 e4 e5 e6 e7 f0 f1 f2 f3 f4 f5 f6 f7 hkx hky _ _ _ _ _ _ _ _ _ _ _ _ _ _ _ _ _ _ _ _ _ _ _ _ _ _ _ _ _ _ _ _ _ _ _ _ _ _ _ _ _ _ _ _ _ _ _ _ _ _ _ _ _ _ _ _ _ _ _ _ _ _ _ _ _ _ _ _ _ _ _ _ _ _ _ _ _ _ _ _ _ _ _ _ _ _ _ _ _ _ _ _ _ _ _ _ _ _ _ _ _ _ _ _ _ _ _ _ _ _ _ _ _ _ _ _ _ _ _ _ _ _ _ _ _ _ _ _ _ _ _ _ _ _ _ _ _ _ _ _ _ _ _ _ _ _ _ _ _ _ _ _ _ _ _ _ _ _ _ _ _ _ _ _ _ _ _ _ _ _ _ _ _ _ _ _ _ _ _ _ _ _ _ _ _ _ _ _ _ _ _ _ _ ?_)
    clear e0 e1 e2 e3 e4 e5 e6 e7 f0 f1 f2 f3 f4 f5 f6 f7 hrow3 hz3 hbw3 hkx hky
    intro v0 v1 v2 v3 v4 v5 v6 v7 v8 v9 v10 v11 b8 n8 wx HA
    dsimp only
    go_wp2_with fail
    go_meet
    exact ⟨_, _, rfl, HA⟩
  case rest =>
    obtain ⟨b8, n8, rfl, HA⟩ := hcut
    obtain ⟨hB6, hbx6, hK6⟩ := HA.out
    clear HA
    have hrow6 := hrow3.below hB6
    have hz6 := hz3.below hB6
    have hbw6 := below_step hbw3 hB6
    clear hB6 hrow3 hz3 hbw3 hkx hky e0 e1 e2 e3 e4 e5 e6 e7 f0 f1 f2 f3 f4 f5 f6 f7
    obtain ⟨p0, p1, p2, p3, p4, p5, p6, p7⟩ := hbx6.cells
    obtain ⟨r0, r1, r2, r3, r4, r5, r6, r7⟩ := hrow6.load HM2.out m (by have := HM2.out; omega)
    have fr := hrow6.free HM2.out
    go_wp2_with fail
    refine HK.out _ _ _ _ _ _ _ _ _ _ _ _ _ _ _ _ _ _ _ _ _ _ _ _ _ _ _ _ _ _ _ _ _ _ _ _ _ _ _ _ _ _ _ _ _ _ _ _ _ _ _ _ _ _ _ _ _ _ _ _ _ _ _ _ _ _ _ _ _ _ _ _ _ _ _ _ _ _ _ _ _ _ _ _ _ _ _ _ _ _ _ _ _ _ _ _ _ _ _ _ _ _ _ _ _ _ _ _ _ _ _ _ _ _ _ _ _ _ _ _ _ _ _ _ _ _ _ _ _ _ _ _ _ _ _ _ _ _ _ _ _ _ _ _ _ _ _ _ _ _ _ _ _ _ _ _ _ _ _ _ _ _ _ _ _ _ _ _ _ _ _ _ _ _ _ _ _ _ _ _ _ _ _ _ ?_
    exact two_end HM.out HN.out HM1.out hlt hrow6 hz6 hbw6 hK6 HSZ.out HOK.out (by rfl) (fun _ => by decide)
end Go.Proofs.YtpfhhdiipedklaaDoor
set_option maxRecDepth 100000
namespace Go.Proofs.YtpfhhdiipedklaaDoor
open Go.RowKit

set_option maxHeartbeats 8000000 in
theorem mk_and (s : ByteArray) (w wr : World) (hlen : s.size ≤ 1000) (k : Nat) (L : List (Pat × Value)) (a : Option Addr) (cap : Nat) (hlt : k < s.size) (HSZ : Hid (Pat.sizes (L.map Prod.fst) ≤ k)) (HOK : Hid (okS s (L.map Prod.fst) = true))
    (hrow : NRow wr (w.heap.size + 1) (.slice a L.length cap) L) (hz : Box wr w.heap.size z8) (hbw : Below w.heap.size w wr) (hcase : s[k].toNat % 8 = 6 ∧ 1 < L.length) (K : Act → World → Prop) (t1 t5 t6 t7 t8 t9 t10 t11 t12 t13 t14 t15 t16 t17 t18 t19 t20 t21 t22 t23 t24 t25 t26 t27 t28 t29 t30 t31 t32 t33 t34 t35 t36 t37 t38 t39 t40 t41 t42 t43 t44 t45 t46 t47 t48 t49 t50 t51 t52 t53 t54 t55 t56 t57 t58 t59 t60 t61 t62 t63 t64 t65 t66 t67 t68 t69 t70 t71 t72 t73 t74 t75 t76 t77 t78 t79 t80 t81 t82 t83 t84 t85 t86 t87 t88 t89 t90 t91 t92 t93 t94 t95 t96 t97 t98 t99 t100 t101 t102 t103 t104 t105 t106 t107 t108 t109 t110 t111 t112 t113 t114 t115 t116 t117 t118 t119 t120 t121 t122 t123 t124 t125 t126 t127 t128 t129 t130 t131 t132 t133 t134 t135 t136 t137 t138 t139 t140 t141 t142 t143 t144 t145 t146 t147 t148 t149 t150 t151 t152 t153 t154 t155 t156 t157 t158 t159 t160 t161 t162 t163 t164 t165 t166 t167 t168 t169 t170 t171 t172 t173 t174 t175 t176 t177 t178 t179 t180 t181 t182 t183 t184 t185 t186 t187 t188 t189 t190 t191 t192 t193 t194 : Value)
    (HK : Hid (∀ (v5 v6 v7 v8 v9 v10 v11 v12 v13 v14 v15 v16 v17 v18 v19 v20 v21 v22 v23 v24 v25 v26 v27 v28 v29 v30 v31 v32 v33 v34 v35 v36 v37 v38 v39 v40 v41 v42 v43 v44 v45 v46 v47 v48 v49 v50 v51 v52 v53 v54 v55 v56 v57 v58 v59 v60 v61 v62 v63 v64 v65 v66 v67 v68 v69 v70 v71 v72 v73 v74 v75 v76 v77 v78 v79 v80 v81 v82 v83 v84 v85 v86 v87 v88 v89 v90 v91 v92 v93 v94 v95 v96 v97 v98 v99 v100 v101 v102 v103 v104 v105 v106 v107 v108 v109 v110 v111 v112 v113 v114 v115 v116 v117 v118 v119 v120 v121 v122 v123 v124 v125 v126 v127 v128 v129 v130 v131 v132 v133 v134 v135 v136 v137 v138 v139 v140 v141 v142 v143 v144 v145 v146 v147 v148 v149 v150 v151 v152 v153 v154 v155 v156 v157 v158 v159 v160 v161 v162 v163 v164 v165 v166 v167 v168 v169 v170 v171 v172 v173 v174 v175 v176 v177 v178 v179 v180 v181 v182 v183 v184 v185 v186 : Value) (v : Value) (w' : World), MkRel s w (k + 1) v w' → K ⟨#[.string s, t1, .pointer (some ⟨w.heap.size, 0, none⟩), v, .int .i64 (↑k + 1), v5, v6, v7, v8, v9, v10, v11, v12, v13, v14, v15, v16, v17, v18, v19, v20, v21, v22, v23, v24, v25, v26, v27, v28, v29, v30, v31, v32, v33, v34, v35, v36, v37, v38, v39, v40, v41, v42, v43, v44, v45, v46, v47, v48, v49, v50, v51, v52, v53, v54, v55, v56, v57, v58, v59, v60, v61, v62, v63, v64, v65, v66, v67, v68, v69, v70, v71, v72, v73, v74, v75, v76, v77, v78, v79, v80, v81, v82, v83, v84, v85, v86, v87, v88, v89, v90, v91, v92, v93, v94, v95, v96, v97, v98, v99, v100, v101, v102, v103, v104, v105, v106, v107, v108, v109, v110, v111, v112, v113, v114, v115, v116, v117, v118, v119, v120, v121, v122, v123, v124, v125, v126, v127, v128, v129, v130, v131, v132, v133, v134, v135, v136, v137, v138, v139, v140, v141, v142, v143, v144, v145, v146, v147, v148, v149, v150, v151, v152, v153, v154, v155, v156, v157, v158, v159, v160, v161, v162, v163, v164, v165, v166, v167, v168, v169, v170, v171, v172, v173, v174, v175, v176, v177, v178, v179, v180, v181, v182, v183, v184, v185, v186, t187, t188, t189, t190, t191, t192, t193, t194], []⟩ w')) :
    Code.wp Tryd.prog mkBody (Exit.then K (fun _ _ _ => False)) ⟨#[.string s, t1, .pointer (some ⟨w.heap.size, 0, none⟩), .slice a L.length cap, .int .i64 k, t5, t6, t7, t8, t9, t10, t11, t12, t13, t14, t15, t16, t17, t18, t19, t20, t21, t22, t23, t24, t25, t26, t27, t28, t29, t30, t31, t32, t33, t34, t35, t36, t37, t38, t39, t40, t41, t42, t43, t44, t45, t46, t47, t48, t49, t50, t51, t52, t53, t54, t55, t56, t57, t58, t59, t60, t61, t62, t63, t64, t65, t66, t67, t68, t69, t70, t71, t72, t73, t74, t75, t76, t77, t78, t79, t80, t81, t82, t83, t84, t85, t86, t87, t88, t89, t90, t91, t92, t93, t94, t95, t96, t97, t98, t99, t100, t101, t102, t103, t104, t105, t106, t107, t108, t109, t110, t111, t112, t113, t114, t115, t116, t117, t118, t119, t120, t121, t122, t123, t124, t125, t126, t127, t128, t129, t130, t131, t132, t133, t134, t135, t136, t137, t138, t139, t140, t141, t142, t143, t144, t145, t146, t147, t148, t149, t150, t151, t152, t153, t154, t155, t156, t157, t158, t159, t160, t161, t162, t163, t164, t165, t166, t167, t168, t169, t170, t171, t172, t173, t174, t175, t176, t177, t178, t179, t180, t181, t182, t183, t184, t185, t186, t187, t188, t189, t190, t191, t192, t193, t194], []⟩ wr := by
  have HPL : Hid (plainB s = true → False) := Lib.hid fun h => by have := plain_at h hlt; omega
  conv => arg 2; whnf
  obtain ⟨i0, hi, hy0, hy1, hy2⟩ := info_parts infoNode
  have hls := hz.lt
  have hll : L.length ≤ k := by have := length_sizes (L.map Prod.fst); have := HSZ.out; simp at *; omega
  have hcl : s[k].toNat < 256 := s[k].toNat_lt
  have hcm : s[k].toNat % 8 < 8 := Nat.mod_lt _ (by omega)
  go_wp2_with fail
  go_at_call 38
  refine (rwith_zero (97 + s[k].toNat / 8 % 3) (by omega) _).mono ?_
  rintro e w1 ⟨rfl, hb1⟩
  go_wp2_with fail
  go_at_call 19
  refine (rset_any _ _).mono ?_
  rintro e w2 ⟨rfl, hb2⟩
  have hrow2 := (hrow.below hb1).below hb2
  have hz2 := (hz.below hb1).below hb2
  have hlz := hz2.lt
  have hbw2 : Below w.heap.size w w2 := by have h1 := hbw.trans (hb1.mono hbw.size); exact h1.trans (hb2.mono h1.size)
  clear hb1 hb2 hrow hz hbw w1 hls
  generalize s[k].toNat = c at *
  obtain ⟨w3, hw3⟩ : ∃ w3, w3 = w2.alloc (.cells #[.int .i64 (Pat.mk 0 (put (0#256) (97 + c / 8 % 3)) 0 0 []).op, .int .u64 (wd (Pat.mk 0 (put (0#256) (97 + c / 8 % 3)) 0 0 []).set 0), .int .u64 (wd (Pat.mk 0 (put (0#256) (97 + c / 8 % 3)) 0 0 []).set 1), .int .u64 (wd (Pat.mk 0 (put (0#256) (97 + c / 8 % 3)) 0 0 []).set 2), .int .u64 (wd (Pat.mk 0 (put (0#256) (97 + c / 8 % 3)) 0 0 []).set 3), .int .i64 (Pat.mk 0 (put (0#256) (97 + c / 8 % 3)) 0 0 []).lo, .int .i64 (Pat.mk 0 (put (0#256) (97 + c / 8 % 3)) 0 0 []).hi, .slice none 0 0] 36) := ⟨_, rfl⟩
  have hal : Below w2.heap.size w2 w3 := by rw [hw3]; exact (Below.refl _ _).alloc (Nat.le_refl _) _
  have hrow3 := hrow2.below hal
  have hz3 := hz2.below hal
  have hbw3 := below_step hbw2 hal
  have hlz3 := hz3.lt
  obtain ⟨hr, hl⟩ := hcase
  obtain ⟨L0, ⟨x1, x2⟩, ⟨y1, y2⟩, rfl⟩ := split_two L hl
  obtain ⟨m, hm⟩ : ∃ m, L0.length = m := ⟨_, rfl⟩
  obtain ⟨n, hn⟩ : ∃ n, n = m + 2 := ⟨_, rfl⟩
  obtain ⟨m1, hm1⟩ : ∃ m1, m1 = m + 1 := ⟨_, rfl⟩
  have hm2 : (L0 ++ [(x1, x2), (y1, y2)]).length = n := by simp [hm, hn]
  have hmn : m < n := by omega
  have hmn1 : m1 < n := by omega
  have hn1 : 1 < n := by omega
  have hmm : m < m1 := by omega
  have hwr2 : IntKind.i64.wrap ((n : Int) - 2) = (m : Int) := by rw [IntKind.wrap_i64]; omega
  have hwr1 : IntKind.i64.wrap ((n : Int) - 1) = (m1 : Int) := by rw [IntKind.wrap_i64]; omega
  have hj0 : (0 : Int) ≤ (m : Int) := by omega
  have hj1 : (m : Int) < (n : Int) := by omega
  have hj2 : (0 : Int) ≤ (m1 : Int) := by omega
  have hj3 : (m1 : Int) < (n : Int) := by omega
  have HN := Lib.hid hn
  have HM1 := Lib.hid hm1
  clear hn
  rw [hm2] at hrow2 hrow3 hll ⊢
  clear hl
  obtain ⟨g, cap2, e, hg1, hg2, hcap⟩ := hrow3.block (by simp)
  rw [hm2] at e hcap
  cases e
  obtain ⟨e0, e1, e2, e3, e4, e5, e6, e7⟩ := hrow3.load hm2 m (by omega)
  obtain ⟨f0, f1, f2, f3, f4, f5, f6, f7⟩ := hrow3.load hm2 m1 (by omega)
  have hx : (L0 ++ [(x1, x2), (y1, y2)])[m] = (x1, x2) := by simp [← hm]
  have hy : (L0 ++ [(x1, x2), (y1, y2)])[m1] = (y1, y2) := by simp [← hm, hm1]
  rw [hx] at e0 e1 e2 e3 e4 e5 e6 e7
  rw [hy] at f0 f1 f2 f3 f4 f5 f6 f7
  clear hx hy hm1
  have hkx : Kids (mask w3 (w.heap.size + 1) (some g)) x1.kids x2 := hrow3.2 (x1, x2) (by simp)
  have hky : Kids (mask w3 (w.heap.size + 1) (some g)) y1.kids y2 := hrow3.2 (y1, y2) (by simp)
  obtain ⟨xa, xc, ex⟩ := hkx.len
  obtain ⟨ya, yc, ey⟩ := hky.len
  subst ex ey
  have hbg : w.heap.size + 1 ≤ w3.heap.size := by omega
  have HM2 := Lib.hid hm2
  have HM := Lib.hid hm
  go_upto_region 24 with fail
  rw [← hw3]
  clear hw3 hrow2 hz2 hbw2 hlz hm2 hm hal
  go_cut [12] from 13 to 186 (fun s8 wx => ∃ (b8 n8 : Nat), s8 = .pointer (some ⟨b8, 0, none⟩) ∧ Hid (Aft w3 wx (w.heap.size + 1) g b8 (Pat.mk 4 0 0 0 [x1, y1]) (.slice (some ⟨n8, 0, none⟩) 2 2)))
  case first =>
    refine Code.wp_mono then_false (reg24_any _ w3 (w.heap.size + 1) g n m m1 cap x1 y1 xa ya xc yc hwr2 hwr1 hj0 hj1 hj2 hj3 hg2 hbg e0 e1 e2 e3 e4 e5 e6 e7 f0 f1 f2 f3 f4 f5 f6 f7 hkx hky _ _ _ _ _ _ _ _ _ _ _ _ _ _ _ _ _ _ _ _ _ _ _ _ _ _ _ _ _ _ _ _ _ _ _ _ _ _ _ _ _ _ _ _ _ _ _ _ _ _ _ _ _ _ _ _ _ _ _ _ _ _ _ _ _ _ _ _ _ _ _ _ _ _ _ _ _ _ _ _ _ _ _ _ _ _ _ _ _ _ _ _ _ _ _ _ _ _ _ _ _ _ _ _ _ _ _ _ _ _ _ _ _ _ _ _ _ _ _ _ _ _ _ _ _ _ _ _ _ _ _ _ _ _ _ _ _ _ _ _ _ _ _ _ _ _ _ _ _ _ _ _ _ _ _ _ _ _ _ _ _ _ _ _ _ _ _ _ _ _ _ _ _ _ _ _ _ _ _ _ _ _ _ _ _ _ _ _ _ _ _ _ _ ?_)
    clear e0 e1 e2 e3 e4 e5 e6 e7 f0 f1 f2 f3 f4 f5 f6 f7 hrow3 hz3 hbw3 hkx hky
    intro v0 v1 v2 v3 v4 v5 v6 v7 v8 v9 v10 v11 b8 n8 wx HA
    dsimp only
    go_wp2_with fail
    go_meet
    exact ⟨_, _, rfl, HA⟩
  case rest =>
    obtain ⟨b8, n8, rfl, HA⟩ := hcut
    obtain ⟨hB6, hbx6, hK6⟩ := HA.out
    clear HA
    have hrow6 := hrow3.below hB6
    have hz6 := hz3.below hB6
    have hbw6 := below_step hbw3 hB6
    clear hB6 hrow3 hz3 hbw3 hkx hky e0 e1 e2 e3 e4 e5 e6 e7 f0 f1 f2 f3 f4 f5 f6 f7
    obtain ⟨p0, p1, p2, p3, p4, p5, p6, p7⟩ := hbx6.cells
    obtain ⟨r0, r1, r2, r3, r4, r5, r6, r7⟩ := hrow6.load HM2.out m (by have := HM2.out; omega)
    have fr := hrow6.free HM2.out
    go_wp2_with fail
    refine HK.out _ _ _ _ _ _ _ _ _ _ _ _ _ _ _ _ _ _ _ _ _ _ _ _ _ _ _ _ _ _ _ _ _ _ _ _ _ _ _ _ _ _ _ _ _ _ _ _ _ _ _ _ _ _ _ _ _ _ _ _ _ _ _ _ _ _ _ _ _ _ _ _ _ _ _ _ _ _ _ _ _ _ _ _ _ _ _ _ _ _ _ _ _ _ _ _ _ _ _ _ _ _ _ _ _ _ _ _ _ _ _ _ _ _ _ _ _ _ _ _ _ _ _ _ _ _ _ _ _ _ _ _ _ _ _ _ _ _ _ _ _ _ _ _ _ _ _ _ _ _ _ _ _ _ _ _ _ _ _ _ _ _ _ _ _ _ _ _ _ _ _ _ _ _ _ _ _ _ _ _ _ _ _ _ ?_
    exact two_end HM.out HN.out HM1.out hlt hrow6 hz6 hbw6 hK6 HSZ.out HOK.out (by rfl) (fun h => (HPL.out h).elim)
end Go.Proofs.YtpfhhdiipedklaaDoor
set_option maxRecDepth 100000
namespace Go.Proofs.YtpfhhdiipedklaaDoor
open Go.RowKit

set_option maxHeartbeats 8000000 in
theorem mk_rep (s : ByteArray) (w wr : World) (hlen : s.size ≤ 1000) (k : Nat) (L : List (Pat × Value)) (a : Option Addr) (cap : Nat) (hlt : k < s.size) (HSZ : Hid (Pat.sizes (L.map Prod.fst) ≤ k)) (HOK : Hid (okS s (L.map Prod.fst) = true))
    (hrow : NRow wr (w.heap.size + 1) (.slice a L.length cap) L) (hz : Box wr w.heap.size z8) (hbw : Below w.heap.size w wr) (hcase : s[k].toNat % 8 = 5 ∧ 0 < L.length) (K : Act → World → Prop) (t1 t5 t6 t7 t8 t9 t10 t11 t12 t13 t14 t15 t16 t17 t18 t19 t20 t21 t22 t23 t24 t25 t26 t27 t28 t29 t30 t31 t32 t33 t34 t35 t36 t37 t38 t39 t40 t41 t42 t43 t44 t45 t46 t47 t48 t49 t50 t51 t52 t53 t54 t55 t56 t57 t58 t59 t60 t61 t62 t63 t64 t65 t66 t67 t68 t69 t70 t71 t72 t73 t74 t75 t76 t77 t78 t79 t80 t81 t82 t83 t84 t85 t86 t87 t88 t89 t90 t91 t92 t93 t94 t95 t96 t97 t98 t99 t100 t101 t102 t103 t104 t105 t106 t107 t108 t109 t110 t111 t112 t113 t114 t115 t116 t117 t118 t119 t120 t121 t122 t123 t124 t125 t126 t127 t128 t129 t130 t131 t132 t133 t134 t135 t136 t137 t138 t139 t140 t141 t142 t143 t144 t145 t146 t147 t148 t149 t150 t151 t152 t153 t154 t155 t156 t157 t158 t159 t160 t161 t162 t163 t164 t165 t166 t167 t168 t169 t170 t171 t172 t173 t174 t175 t176 t177 t178 t179 t180 t181 t182 t183 t184 t185 t186 t187 t188 t189 t190 t191 t192 t193 t194 : Value)
    (HK : Hid (∀ (v5 v6 v7 v8 v9 v10 v11 v12 v13 v14 v15 v16 v17 v18 v19 v20 v21 v22 v23 v24 v25 v26 v27 v28 v29 v30 v31 v32 v33 v34 v35 v36 v37 v38 v39 v40 v41 v42 v43 v44 v45 v46 v47 v48 v49 v50 v51 v52 v53 v54 v55 v56 v57 v58 v59 v60 v61 v62 v63 v64 v65 v66 v67 v68 v69 v70 v71 v72 v73 v74 v75 v76 v77 v78 v79 v80 v81 v82 v83 v84 v85 v86 v87 v88 v89 v90 v91 v92 v93 v94 v95 v96 v97 v98 v99 v100 v101 v102 v103 v104 v105 v106 v107 v108 v109 v110 v111 v112 v113 v114 v115 v116 v117 v118 v119 v120 v121 v122 v123 v124 v125 v126 v127 v128 v129 v130 v131 v132 v133 v134 v135 v136 v137 v138 v139 v140 v141 v142 v143 v144 v145 v146 v147 v148 v149 v150 v151 v152 v153 v154 v155 v156 v157 v158 v159 v160 v161 v162 v163 v164 v165 v166 v167 v168 v169 v170 v171 v172 v173 v174 v175 v176 v177 v178 v179 v180 v181 v182 v183 v184 v185 v186 : Value) (v : Value) (w' : World), MkRel s w (k + 1) v w' → K ⟨#[.string s, t1, .pointer (some ⟨w.heap.size, 0, none⟩), v, .int .i64 (↑k + 1), v5, v6, v7, v8, v9, v10, v11, v12, v13, v14, v15, v16, v17, v18, v19, v20, v21, v22, v23, v24, v25, v26, v27, v28, v29, v30, v31, v32, v33, v34, v35, v36, v37, v38, v39, v40, v41, v42, v43, v44, v45, v46, v47, v48, v49, v50, v51, v52, v53, v54, v55, v56, v57, v58, v59, v60, v61, v62, v63, v64, v65, v66, v67, v68, v69, v70, v71, v72, v73, v74, v75, v76, v77, v78, v79, v80, v81, v82, v83, v84, v85, v86, v87, v88, v89, v90, v91, v92, v93, v94, v95, v96, v97, v98, v99, v100, v101, v102, v103, v104, v105, v106, v107, v108, v109, v110, v111, v112, v113, v114, v115, v116, v117, v118, v119, v120, v121, v122, v123, v124, v125, v126, v127, v128, v129, v130, v131, v132, v133, v134, v135, v136, v137, v138, v139, v140, v141, v142, v143, v144, v145, v146, v147, v148, v149, v150, v151, v152, v153, v154, v155, v156, v157, v158, v159, v160, v161, v162, v163, v164, v165, v166, v167, v168, v169, v170, v171, v172, v173, v174, v175, v176, v177, v178, v179, v180, v181, v182, v183, v184, v185, v186, t187, t188, t189, t190, t191, t192, t193, t194], []⟩ w')) :
    Code.wp Tryd.prog mkBody (Exit.then K (fun _ _ _ => False)) ⟨#[.string s, t1, .pointer (some ⟨w.heap.size, 0, none⟩), .slice a L.length cap, .int .i64 k, t5, t6, t7, t8, t9, t10, t11, t12, t13, t14, t15, t16, t17, t18, t19, t20, t21, t22, t23, t24, t25, t26, t27, t28, t29, t30, t31, t32, t33, t34, t35, t36, t37, t38, t39, t40, t41, t42, t43, t44, t45, t46, t47, t48, t49, t50, t51, t52, t53, t54, t55, t56, t57, t58, t59, t60, t61, t62, t63, t64, t65, t66, t67, t68, t69, t70, t71, t72, t73, t74, t75, t76, t77, t78, t79, t80, t81, t82, t83, t84, t85, t86, t87, t88, t89, t90, t91, t92, t93, t94, t95, t96, t97, t98, t99, t100, t101, t102, t103, t104, t105, t106, t107, t108, t109, t110, t111, t112, t113, t114, t115, t116, t117, t118, t119, t120, t121, t122, t123, t124, t125, t126, t127, t128, t129, t130, t131, t132, t133, t134, t135, t136, t137, t138, t139, t140, t141, t142, t143, t144, t145, t146, t147, t148, t149, t150, t151, t152, t153, t154, t155, t156, t157, t158, t159, t160, t161, t162, t163, t164, t165, t166, t167, t168, t169, t170, t171, t172, t173, t174, t175, t176, t177, t178, t179, t180, t181, t182, t183, t184, t185, t186, t187, t188, t189, t190, t191, t192, t193, t194], []⟩ wr := by
  conv => arg 2; whnf
  obtain ⟨i0, hi, hy0, hy1, hy2⟩ := info_parts infoNode
  have hls := hz.lt
  have hll : L.length ≤ k := by have := length_sizes (L.map Prod.fst); have := HSZ.out; simp at *; omega
  have hcl : s[k].toNat < 256 := s[k].toNat_lt
  have hcm : s[k].toNat % 8 < 8 := Nat.mod_lt _ (by omega)
  go_wp2_with fail
  go_at_call 38
  refine (rwith_zero (97 + s[k].toNat / 8 % 3) (by omega) _).mono ?_
  rintro e w1 ⟨rfl, hb1⟩
  go_wp2_with fail
  go_at_call 19
  refine (rset_any _ _).mono ?_
  rintro e w2 ⟨rfl, hb2⟩
  have hrow2 := (hrow.below hb1).below hb2
  have hz2 := (hz.below hb1).below hb2
  have hlz := hz2.lt
  have hbw2 : Below w.heap.size w w2 := by have h1 := hbw.trans (hb1.mono hbw.size); exact h1.trans (hb2.mono h1.size)
  clear hb1 hb2 hrow hz hbw w1 hls
  generalize s[k].toNat = c at *
  obtain ⟨w3, hw3⟩ : ∃ w3, w3 = w2.alloc (.cells #[.int .i64 (Pat.mk 0 (put (0#256) (97 + c / 8 % 3)) 0 0 []).op, .int .u64 (wd (Pat.mk 0 (put (0#256) (97 + c / 8 % 3)) 0 0 []).set 0), .int .u64 (wd (Pat.mk 0 (put (0#256) (97 + c / 8 % 3)) 0 0 []).set 1), .int .u64 (wd (Pat.mk 0 (put (0#256) (97 + c / 8 % 3)) 0 0 []).set 2), .int .u64 (wd (Pat.mk 0 (put (0#256) (97 + c / 8 % 3)) 0 0 []).set 3), .int .i64 (Pat.mk 0 (put (0#256) (97 + c / 8 % 3)) 0 0 []).lo, .int .i64 (Pat.mk 0 (put (0#256) (97 + c / 8 % 3)) 0 0 []).hi, .slice none 0 0] 36) := ⟨_, rfl⟩
  have hal : Below w2.heap.size w2 w3 := by rw [hw3]; exact (Below.refl _ _).alloc (Nat.le_refl _) _
  have hrow3 := hrow2.below hal
  have hz3 := hz2.below hal
  have hbw3 := below_step hbw2 hal
  have hlz3 := hz3.lt
  obtain ⟨hr, hl⟩ := hcase
  obtain ⟨L0, ⟨x1, x2⟩, rfl⟩ := split_one L hl
  obtain ⟨m, hm⟩ : ∃ m, L0.length = m := ⟨_, rfl⟩
  obtain ⟨n, hn⟩ : ∃ n, n = m + 1 := ⟨_, rfl⟩
  have hm2 : (L0 ++ [(x1, x2)]).length = n := by simp [hm, hn]
  have hmn : m < n := by omega
  have hn1 : 0 < n := by omega
  have hwr1 : IntKind.i64.wrap ((n : Int) - 1) = (m : Int) := by rw [IntKind.wrap_i64]; omega
  have hj0 : (0 : Int) ≤ (m : Int) := by omega
  have hj1 : (m : Int) < (n : Int) := by omega
  have HN := Lib.hid hn
  clear hn
  rw [hm2] at hrow2 hrow3 hll ⊢
  clear hl
  obtain ⟨g, cap2, e, hg1, hg2, hcap⟩ := hrow3.block (by simp)
  rw [hm2] at e hcap
  cases e
  obtain ⟨e0, e1, e2, e3, e4, e5, e6, e7⟩ := hrow3.load hm2 m (by omega)
  have hx : (L0 ++ [(x1, x2)])[m] = (x1, x2) := by simp [← hm]
  rw [hx] at e0 e1 e2 e3 e4 e5 e6 e7
  clear hx
  have hkx : Kids (mask w3 (w.heap.size + 1) (some g)) x1.kids x2 := hrow3.2 (x1, x2) (by simp)
  obtain ⟨xa, xc, ex⟩ := hkx.len
  subst ex
  have hbg : w.heap.size + 1 ≤ w3.heap.size := by omega
  have HM2 := Lib.hid hm2
  have HM := Lib.hid hm
  go_upto_region 22 with fail
  all_goals
    rw [← hw3]
    clear hw3 hrow2 hz2 hbw2 hlz hm2 hm hal
    go_wp2_with fail
    go_at_call 20
    refine (rrep_m x1 _ _ _ _ (w.heap.size + 1) (some g) hkx hbg (fun g' e => by have h9 : g = g' := Option.some.inj e; omega)).mono ?_
    rintro e w6 ⟨n8, rfl, hK6, HB6⟩
    have hrow6 := hrow3.below HB6
    have hz6 := hz3.below HB6
    have hbw6 := below_step hbw3 HB6
    clear HB6 hrow3 hz3 hbw3 hkx e0 e1 e2 e3 e4 e5 e6 e7
    obtain ⟨r0, r1, r2, r3, r4, r5, r6, r7⟩ := hrow6.load HM2.out m (by have := HM2.out; omega)
    have fr := hrow6.free HM2.out
    go_wp2_with fail
    refine HK.out _ _ _ _ _ _ _ _ _ _ _ _ _ _ _ _ _ _ _ _ _ _ _ _ _ _ _ _ _ _ _ _ _ _ _ _ _ _ _ _ _ _ _ _ _ _ _ _ _ _ _ _ _ _ _ _ _ _ _ _ _ _ _ _ _ _ _ _ _ _ _ _ _ _ _ _ _ _ _ _ _ _ _ _ _ _ _ _ _ _ _ _ _ _ _ _ _ _ _ _ _ _ _ _ _ _ _ _ _ _ _ _ _ _ _ _ _ _ _ _ _ _ _ _ _ _ _ _ _ _ _ _ _ _ _ _ _ _ _ _ _ _ _ _ _ _ _ _ _ _ _ _ _ _ _ _ _ _ _ _ _ _ _ _ _ _ _ _ _ _ _ _ _ _ _ _ _ _ _ _ _ _ _ _ ?_
    exact one_end HM.out HN.out hlt hrow6 hz6 hbw6 hK6 HSZ.out HOK.out ⟨by simp [okN]; omega, fun _ => by decide⟩
end Go.Proofs.YtpfhhdiipedklaaDoor
set_option maxRecDepth 100000
namespace Go.Proofs.YtpfhhdiipedklaaDoor
open Go.RowKit

set_option maxHeartbeats 8000000 in
theorem mk_not (s : ByteArray) (w wr : World) (hlen : s.size ≤ 1000) (k : Nat) (L : List (Pat × Value)) (a : Option Addr) (cap : Nat) (hlt : k < s.size) (HSZ : Hid (Pat.sizes (L.map Prod.fst) ≤ k)) (HOK : Hid (okS s (L.map Prod.fst) = true))
    (hrow : NRow wr (w.heap.size + 1) (.slice a L.length cap) L) (hz : Box wr w.heap.size z8) (hbw : Below w.heap.size w wr) (hcase : s[k].toNat % 8 = 7 ∧ 0 < L.length) (K : Act → World → Prop) (t1 t5 t6 t7 t8 t9 t10 t11 t12 t13 t14 t15 t16 t17 t18 t19 t20 t21 t22 t23 t24 t25 t26 t27 t28 t29 t30 t31 t32 t33 t34 t35 t36 t37 t38 t39 t40 t41 t42 t43 t44 t45 t46 t47 t48 t49 t50 t51 t52 t53 t54 t55 t56 t57 t58 t59 t60 t61 t62 t63 t64 t65 t66 t67 t68 t69 t70 t71 t72 t73 t74 t75 t76 t77 t78 t79 t80 t81 t82 t83 t84 t85 t86 t87 t88 t89 t90 t91 t92 t93 t94 t95 t96 t97 t98 t99 t100 t101 t102 t103 t104 t105 t106 t107 t108 t109 t110 t111 t112 t113 t114 t115 t116 t117 t118 t119 t120 t121 t122 t123 t124 t125 t126 t127 t128 t129 t130 t131 t132 t133 t134 t135 t136 t137 t138 t139 t140 t141 t142 t143 t144 t145 t146 t147 t148 t149 t150 t151 t152 t153 t154 t155 t156 t157 t158 t159 t160 t161 t162 t163 t164 t165 t166 t167 t168 t169 t170 t171 t172 t173 t174 t175 t176 t177 t178 t179 t180 t181 t182 t183 t184 t185 t186 t187 t188 t189 t190 t191 t192 t193 t194 : Value)
    (HK : Hid (∀ (v5 v6 v7 v8 v9 v10 v11 v12 v13 v14 v15 v16 v17 v18 v19 v20 v21 v22 v23 v24 v25 v26 v27 v28 v29 v30 v31 v32 v33 v34 v35 v36 v37 v38 v39 v40 v41 v42 v43 v44 v45 v46 v47 v48 v49 v50 v51 v52 v53 v54 v55 v56 v57 v58 v59 v60 v61 v62 v63 v64 v65 v66 v67 v68 v69 v70 v71 v72 v73 v74 v75 v76 v77 v78 v79 v80 v81 v82 v83 v84 v85 v86 v87 v88 v89 v90 v91 v92 v93 v94 v95 v96 v97 v98 v99 v100 v101 v102 v103 v104 v105 v106 v107 v108 v109 v110 v111 v112 v113 v114 v115 v116 v117 v118 v119 v120 v121 v122 v123 v124 v125 v126 v127 v128 v129 v130 v131 v132 v133 v134 v135 v136 v137 v138 v139 v140 v141 v142 v143 v144 v145 v146 v147 v148 v149 v150 v151 v152 v153 v154 v155 v156 v157 v158 v159 v160 v161 v162 v163 v164 v165 v166 v167 v168 v169 v170 v171 v172 v173 v174 v175 v176 v177 v178 v179 v180 v181 v182 v183 v184 v185 v186 : Value) (v : Value) (w' : World), MkRel s w (k + 1) v w' → K ⟨#[.string s, t1, .pointer (some ⟨w.heap.size, 0, none⟩), v, .int .i64 (↑k + 1), v5, v6, v7, v8, v9, v10, v11, v12, v13, v14, v15, v16, v17, v18, v19, v20, v21, v22, v23, v24, v25, v26, v27, v28, v29, v30, v31, v32, v33, v34, v35, v36, v37, v38, v39, v40, v41, v42, v43, v44, v45, v46, v47, v48, v49, v50, v51, v52, v53, v54, v55, v56, v57, v58, v59, v60, v61, v62, v63, v64, v65, v66, v67, v68, v69, v70, v71, v72, v73, v74, v75, v76, v77, v78, v79, v80, v81, v82, v83, v84, v85, v86, v87, v88, v89, v90, v91, v92, v93, v94, v95, v96, v97, v98, v99, v100, v101, v102, v103, v104, v105, v106, v107, v108, v109, v110, v111, v112, v113, v114, v115, v116, v117, v118, v119, v120, v121, v122, v123, v124, v125, v126, v127, v128, v129, v130, v131, v132, v133, v134, v135, v136, v137, v138, v139, v140, v141, v142, v143, v144, v145, v146, v147, v148, v149, v150, v151, v152, v153, v154, v155, v156, v157, v158, v159, v160, v161, v162, v163, v164, v165, v166, v167, v168, v169, v170, v171, v172, v173, v174, v175, v176, v177, v178, v179, v180, v181, v182, v183, v184, v185, v186, t187, t188, t189, t190, t191, t192, t193, t194], []⟩ w')) :
    Code.wp Tryd.prog mkBody (Exit.then K (fun _ _ _ => False)) ⟨#[.string s, t1, .pointer (some ⟨w.heap.size, 0, none⟩), .slice a L.length cap, .int .i64 k, t5, t6, t7, t8, t9, t10, t11, t12, t13, t14, t15, t16, t17, t18, t19, t20, t21, t22, t23, t24, t25, t26, t27, t28, t29, t30, t31, t32, t33, t34, t35, t36, t37, t38, t39, t40, t41, t42, t43, t44, t45, t46, t47, t48, t49, t50, t51, t52, t53, t54, t55, t56, t57, t58, t59, t60, t61, t62, t63, t64, t65, t66, t67, t68, t69, t70, t71, t72, t73, t74, t75, t76, t77, t78, t79, t80, t81, t82, t83, t84, t85, t86, t87, t88, t89, t90, t91, t92, t93, t94, t95, t96, t97, t98, t99, t100, t101, t102, t103, t104, t105, t106, t107, t108, t109, t110, t111, t112, t113, t114, t115, t116, t117, t118, t119, t120, t121, t122, t123, t124, t125, t126, t127, t128, t129, t130, t131, t132, t133, t134, t135, t136, t137, t138, t139, t140, t141, t142, t143, t144, t145, t146, t147, t148, t149, t150, t151, t152, t153, t154, t155, t156, t157, t158, t159, t160, t161, t162, t163, t164, t165, t166, t167, t168, t169, t170, t171, t172, t173, t174, t175, t176, t177, t178, t179, t180, t181, t182, t183, t184, t185, t186, t187, t188, t189, t190, t191, t192, t193, t194], []⟩ wr := by
  have HPL : Hid (plainB s = true → False) := Lib.hid fun h => by have := plain_at h hlt; omega
  conv => arg 2; whnf
  obtain ⟨i0, hi, hy0, hy1, hy2⟩ := info_parts infoNode
  have hls := hz.lt
  have hll : L.length ≤ k := by have := length_sizes (L.map Prod.fst); have := HSZ.out; simp at *; omega
  have hcl : s[k].toNat < 256 := s[k].toNat_lt
  have hcm : s[k].toNat % 8 < 8 := Nat.mod_lt _ (by omega)
  go_wp2_with fail
  go_at_call 38
  refine (rwith_zero (97 + s[k].toNat / 8 % 3) (by omega) _).mono ?_
  rintro e w1 ⟨rfl, hb1⟩
  go_wp2_with fail
  go_at_call 19
  refine (rset_any _ _).mono ?_
  rintro e w2 ⟨rfl, hb2⟩
  have hrow2 := (hrow.below hb1).below hb2
  have hz2 := (hz.below hb1).below hb2
  have hlz := hz2.lt
  have hbw2 : Below w.heap.size w w2 := by have h1 := hbw.trans (hb1.mono hbw.size); exact h1.trans (hb2.mono h1.size)
  clear hb1 hb2 hrow hz hbw w1 hls
  generalize s[k].toNat = c at *
  obtain ⟨w3, hw3⟩ : ∃ w3, w3 = w2.alloc (.cells #[.int .i64 (Pat.mk 0 (put (0#256) (97 + c / 8 % 3)) 0 0 []).op, .int .u64 (wd (Pat.mk 0 (put (0#256) (97 + c / 8 % 3)) 0 0 []).set 0), .int .u64 (wd (Pat.mk 0 (put (0#256) (97 + c / 8 % 3)) 0 0 []).set 1), .int .u64 (wd (Pat.mk 0 (put (0#256) (97 + c / 8 % 3)) 0 0 []).set 2), .int .u64 (wd (Pat.mk 0 (put (0#256) (97 + c / 8 % 3)) 0 0 []).set 3), .int .i64 (Pat.mk 0 (put (0#256) (97 + c / 8 % 3)) 0 0 []).lo, .int .i64 (Pat.mk 0 (put (0#256) (97 + c / 8 % 3)) 0 0 []).hi, .slice none 0 0] 36) := ⟨_, rfl⟩
  have hal : Below w2.heap.size w2 w3 := by rw [hw3]; exact (Below.refl _ _).alloc (Nat.le_refl _) _
  have hrow3 := hrow2.below hal
  have hz3 := hz2.below hal
  have hbw3 := below_step hbw2 hal
  have hlz3 := hz3.lt
  obtain ⟨hr, hl⟩ := hcase
  obtain ⟨L0, ⟨x1, x2⟩, rfl⟩ := split_one L hl
  obtain ⟨m, hm⟩ : ∃ m, L0.length = m := ⟨_, rfl⟩
  obtain ⟨n, hn⟩ : ∃ n, n = m + 1 := ⟨_, rfl⟩
  have hm2 : (L0 ++ [(x1, x2)]).length = n := by simp [hm, hn]
  have hmn : m < n := by omega
  have hn1 : 0 < n := by omega
  have hwr1 : IntKind.i64.wrap ((n : Int) - 1) = (m : Int) := by rw [IntKind.wrap_i64]; omega
  have hj0 : (0 : Int) ≤ (m : Int) := by omega
  have hj1 : (m : Int) < (n : Int) := by omega
  have HN := Lib.hid hn
  clear hn
  rw [hm2] at hrow2 hrow3 hll ⊢
  clear hl
  obtain ⟨g, cap2, e, hg1, hg2, hcap⟩ := hrow3.block (by simp)
  rw [hm2] at e hcap
  cases e
  obtain ⟨e0, e1, e2, e3, e4, e5, e6, e7⟩ := hrow3.load hm2 m (by omega)
  have hx : (L0 ++ [(x1, x2)])[m] = (x1, x2) := by simp [← hm]
  rw [hx] at e0 e1 e2 e3 e4 e5 e6 e7
  clear hx
  have hkx : Kids (mask w3 (w.heap.size + 1) (some g)) x1.kids x2 := hrow3.2 (x1, x2) (by simp)
  obtain ⟨xa, xc, ex⟩ := hkx.len
  subst ex
  have hbg : w.heap.size + 1 ≤ w3.heap.size := by omega
  have HM2 := Lib.hid hm2
  have HM := Lib.hid hm
  go_upto_region 28 with fail
  rw [← hw3]
  clear hw3 hrow2 hz2 hbw2 hlz hm2 hm hal
  go_wp2_with fail
  go_at_call 18
  refine (rmany_sl 5 _ 1 1 [x1] _).mono ?_
  rintro e w6 ⟨rfl, HB5⟩
  have HB6 := below_step ((Below.refl w3.heap.size w3).alloc (Nat.le_refl _) _) HB5
  have hK6 := (hkx.oneM rfl hbg (fun e => by have h9 : w3.heap.size = g := Option.some.inj e; omega)).masked_below HB5
  have hrow6 := hrow3.below HB6
  have hz6 := hz3.below HB6
  have hbw6 := below_step hbw3 HB6
  clear HB5
  clear HB6 hrow3 hz3 hbw3 hkx e0 e1 e2 e3 e4 e5 e6 e7
  obtain ⟨r0, r1, r2, r3, r4, r5, r6, r7⟩ := hrow6.load HM2.out m (by have := HM2.out; omega)
  have fr := hrow6.free HM2.out
  go_wp2_with fail
  refine HK.out _ _ _ _ _ _ _ _ _ _ _ _ _ _ _ _ _ _ _ _ _ _ _ _ _ _ _ _ _ _ _ _ _ _ _ _ _ _ _ _ _ _ _ _ _ _ _ _ _ _ _ _ _ _ _ _ _ _ _ _ _ _ _ _ _ _ _ _ _ _ _ _ _ _ _ _ _ _ _ _ _ _ _ _ _ _ _ _ _ _ _ _ _ _ _ _ _ _ _ _ _ _ _ _ _ _ _ _ _ _ _ _ _ _ _ _ _ _ _ _ _ _ _ _ _ _ _ _ _ _ _ _ _ _ _ _ _ _ _ _ _ _ _ _ _ _ _ _ _ _ _ _ _ _ _ _ _ _ _ _ _ _ _ _ _ _ _ _ _ _ _ _ _ _ _ _ _ _ _ _ _ _ _ _ ?_
  exact one_end HM.out HN.out hlt hrow6 hz6 hbw6 hK6 HSZ.out HOK.out ⟨by rfl, fun h => (HPL.out h).elim⟩
end Go.Proofs.YtpfhhdiipedklaaDoor
set_option maxRecDepth 100000
namespace Go.Proofs.YtpfhhdiipedklaaDoor
open Go.RowKit

set_option maxHeartbeats 8000000 in
theorem mk_range (s : ByteArray) (w wr : World) (hlen : s.size ≤ 1000) (k : Nat) (L : List (Pat × Value)) (a : Option Addr) (cap : Nat) (hlt : k < s.size) (HSZ : Hid (Pat.sizes (L.map Prod.fst) ≤ k)) (HOK : Hid (okS s (L.map Prod.fst) = true))
    (hrow : NRow wr (w.heap.size + 1) (.slice a L.length cap) L) (hz : Box wr w.heap.size z8) (hbw : Below w.heap.size w wr) (hcase : s[k].toNat % 8 = 2) (K : Act → World → Prop) (t1 t5 t6 t7 t8 t9 t10 t11 t12 t13 t14 t15 t16 t17 t18 t19 t20 t21 t22 t23 t24 t25 t26 t27 t28 t29 t30 t31 t32 t33 t34 t35 t36 t37 t38 t39 t40 t41 t42 t43 t44 t45 t46 t47 t48 t49 t50 t51 t52 t53 t54 t55 t56 t57 t58 t59 t60 t61 t62 t63 t64 t65 t66 t67 t68 t69 t70 t71 t72 t73 t74 t75 t76 t77 t78 t79 t80 t81 t82 t83 t84 t85 t86 t87 t88 t89 t90 t91 t92 t93 t94 t95 t96 t97 t98 t99 t100 t101 t102 t103 t104 t105 t106 t107 t108 t109 t110 t111 t112 t113 t114 t115 t116 t117 t118 t119 t120 t121 t122 t123 t124 t125 t126 t127 t128 t129 t130 t131 t132 t133 t134 t135 t136 t137 t138 t139 t140 t141 t142 t143 t144 t145 t146 t147 t148 t149 t150 t151 t152 t153 t154 t155 t156 t157 t158 t159 t160 t161 t162 t163 t164 t165 t166 t167 t168 t169 t170 t171 t172 t173 t174 t175 t176 t177 t178 t179 t180 t181 t182 t183 t184 t185 t186 t187 t188 t189 t190 t191 t192 t193 t194 : Value)
    (HK : Hid (∀ (v5 v6 v7 v8 v9 v10 v11 v12 v13 v14 v15 v16 v17 v18 v19 v20 v21 v22 v23 v24 v25 v26 v27 v28 v29 v30 v31 v32 v33 v34 v35 v36 v37 v38 v39 v40 v41 v42 v43 v44 v45 v46 v47 v48 v49 v50 v51 v52 v53 v54 v55 v56 v57 v58 v59 v60 v61 v62 v63 v64 v65 v66 v67 v68 v69 v70 v71 v72 v73 v74 v75 v76 v77 v78 v79 v80 v81 v82 v83 v84 v85 v86 v87 v88 v89 v90 v91 v92 v93 v94 v95 v96 v97 v98 v99 v100 v101 v102 v103 v104 v105 v106 v107 v108 v109 v110 v111 v112 v113 v114 v115 v116 v117 v118 v119 v120 v121 v122 v123 v124 v125 v126 v127 v128 v129 v130 v131 v132 v133 v134 v135 v136 v137 v138 v139 v140 v141 v142 v143 v144 v145 v146 v147 v148 v149 v150 v151 v152 v153 v154 v155 v156 v157 v158 v159 v160 v161 v162 v163 v164 v165 v166 v167 v168 v169 v170 v171 v172 v173 v174 v175 v176 v177 v178 v179 v180 v181 v182 v183 v184 v185 v186 : Value) (v : Value) (w' : World), MkRel s w (k + 1) v w' → K ⟨#[.string s, t1, .pointer (some ⟨w.heap.size, 0, none⟩), v, .int .i64 (↑k + 1), v5, v6, v7, v8, v9, v10, v11, v12, v13, v14, v15, v16, v17, v18, v19, v20, v21, v22, v23, v24, v25, v26, v27, v28, v29, v30, v31, v32, v33, v34, v35, v36, v37, v38, v39, v40, v41, v42, v43, v44, v45, v46, v47, v48, v49, v50, v51, v52, v53, v54, v55, v56, v57, v58, v59, v60, v61, v62, v63, v64, v65, v66, v67, v68, v69, v70, v71, v72, v73, v74, v75, v76, v77, v78, v79, v80, v81, v82, v83, v84, v85, v86, v87, v88, v89, v90, v91, v92, v93, v94, v95, v96, v97, v98, v99, v100, v101, v102, v103, v104, v105, v106, v107, v108, v109, v110, v111, v112, v113, v114, v115, v116, v117, v118, v119, v120, v121, v122, v123, v124, v125, v126, v127, v128, v129, v130, v131, v132, v133, v134, v135, v136, v137, v138, v139, v140, v141, v142, v143, v144, v145, v146, v147, v148, v149, v150, v151, v152, v153, v154, v155, v156, v157, v158, v159, v160, v161, v162, v163, v164, v165, v166, v167, v168, v169, v170, v171, v172, v173, v174, v175, v176, v177, v178, v179, v180, v181, v182, v183, v184, v185, v186, t187, t188, t189, t190, t191, t192, t193, t194], []⟩ w')) :
    Code.wp Tryd.prog mkBody (Exit.then K (fun _ _ _ => False)) ⟨#[.string s, t1, .pointer (some ⟨w.heap.size, 0, none⟩), .slice a L.length cap, .int .i64 k, t5, t6, t7, t8, t9, t10, t11, t12, t13, t14, t15, t16, t17, t18, t19, t20, t21, t22, t23, t24, t25, t26, t27, t28, t29, t30, t31, t32, t33, t34, t35, t36, t37, t38, t39, t40, t41, t42, t43, t44, t45, t46, t47, t48, t49, t50, t51, t52, t53, t54, t55, t56, t57, t58, t59, t60, t61, t62, t63, t64, t65, t66, t67, t68, t69, t70, t71, t72, t73, t74, t75, t76, t77, t78, t79, t80, t81, t82, t83, t84, t85, t86, t87, t88, t89, t90, t91, t92, t93, t94, t95, t96, t97, t98, t99, t100, t101, t102, t103, t104, t105, t106, t107, t108, t109, t110, t111, t112, t113, t114, t115, t116, t117, t118, t119, t120, t121, t122, t123, t124, t125, t126, t127, t128, t129, t130, t131, t132, t133, t134, t135, t136, t137, t138, t139, t140, t141, t142, t143, t144, t145, t146, t147, t148, t149, t150, t151, t152, t153, t154, t155, t156, t157, t158, t159, t160, t161, t162, t163, t164, t165, t166, t167, t168, t169, t170, t171, t172, t173, t174, t175, t176, t177, t178, t179, t180, t181, t182, t183, t184, t185, t186, t187, t188, t189, t190, t191, t192, t193, t194], []⟩ wr := by
  conv => arg 2; whnf
  obtain ⟨i0, hi, hy0, hy1, hy2⟩ := info_parts infoNode
  have hls := hz.lt
  have hll : L.length ≤ k := by have := length_sizes (L.map Prod.fst); have := HSZ.out; simp at *; omega
  have hcl : s[k].toNat < 256 := s[k].toNat_lt
  have hcm : s[k].toNat % 8 < 8 := Nat.mod_lt _ (by omega)
  go_wp2_with fail
  go_at_call 38
  refine (rwith_zero (97 + s[k].toNat / 8 % 3) (by omega) _).mono ?_
  rintro e w1 ⟨rfl, hb1⟩
  go_wp2_with fail
  go_at_call 19
  refine (rset_any _ _).mono ?_
  rintro e w2 ⟨rfl, hb2⟩
  have hrow2 := (hrow.below hb1).below hb2
  have hz2 := (hz.below hb1).below hb2
  have hlz := hz2.lt
  have hbw2 : Below w.heap.size w w2 := by have h1 := hbw.trans (hb1.mono hbw.size); exact h1.trans (hb2.mono h1.size)
  clear hb1 hb2 hrow hz hbw w1 hls
  generalize s[k].toNat = c at *
  obtain ⟨w3, hw3⟩ : ∃ w3, w3 = w2.alloc (.cells #[.int .i64 (Pat.mk 0 (put (0#256) (97 + c / 8 % 3)) 0 0 []).op, .int .u64 (wd (Pat.mk 0 (put (0#256) (97 + c / 8 % 3)) 0 0 []).set 0), .int .u64 (wd (Pat.mk 0 (put (0#256) (97 + c / 8 % 3)) 0 0 []).set 1), .int .u64 (wd (Pat.mk 0 (put (0#256) (97 + c / 8 % 3)) 0 0 []).set 2), .int .u64 (wd (Pat.mk 0 (put (0#256) (97 + c / 8 % 3)) 0 0 []).set 3), .int .i64 (Pat.mk 0 (put (0#256) (97 + c / 8 % 3)) 0 0 []).lo, .int .i64 (Pat.mk 0 (put (0#256) (97 + c / 8 % 3)) 0 0 []).hi, .slice none 0 0] 36) := ⟨_, rfl⟩
  have hal : Below w2.heap.size w2 w3 := by rw [hw3]; exact (Below.refl _ _).alloc (Nat.le_refl _) _
  have hrow3 := hrow2.below hal
  have hz3 := hz2.below hal
  have hbw3 := below_step hbw2 hal
  have hlz3 := hz3.lt
  have hr := hcase
  go_upto_region 30 with fail
  rw [← hw3]
  clear hw3 hrow2 hz2 hbw2 hlz hal
  go_wp2_with (first
    | (go_at_call 54; refine (rrange_any 97 (97 + c / 8 % 3) (by omega) (by omega) _).mono ?_; rintro e w4 ⟨rfl, hb4⟩)
    | (go_at_call 19; refine (rset_any _ _).mono ?_; rintro e w5 ⟨rfl, hb5⟩; have hrow5 := (hrow3.below hb4).below hb5; have hz5 := (hz3.below hb4).below hb5; have hlz5 := hz5.lt; have hbw5 := below_step (below_step hbw3 hb4) hb5)
    | (at_builtin; refine wpList_append_own_at _ rfl _ _ 34 rfl (w.heap.size + 1) 36 i0 (.agg #[.int .i64 0, .int .u64 0, .int .u64 0, .int .u64 0, .int .u64 0, .int .i64 0, .int .i64 0, .slice none 0 0]) 8 80 Tryd.underlying34 hi hy0 hy1 hy2 rfl (by decide) _ _ _ rfl (hrow5.1.alloc _) ⟨w5.heap.size, 0, none⟩ 1 1 [.int .i64 (Pat.mk 0 (ofP (rangeP 97 (97 + c / 8 % 3))) 0 0 []).op, .int .u64 (wd (Pat.mk 0 (ofP (rangeP 97 (97 + c / 8 % 3))) 0 0 []).set 0), .int .u64 (wd (Pat.mk 0 (ofP (rangeP 97 (97 + c / 8 % 3))) 0 0 []).set 1), .int .u64 (wd (Pat.mk 0 (ofP (rangeP 97 (97 + c / 8 % 3))) 0 0 []).set 2), .int .u64 (wd (Pat.mk 0 (ofP (rangeP 97 (97 + c / 8 % 3))) 0 0 []).set 3), .int .i64 (Pat.mk 0 (ofP (rangeP 97 (97 + c / 8 % 3))) 0 0 []).lo, .int .i64 (Pat.mk 0 (ofP (rangeP 97 (97 + c / 8 % 3))) 0 0 []).hi, .slice none 0 0] rfl rfl (cell_eight_new _ _ _ _) (by simp [Value.oneCell']) (by unfold maxLen; omega) (by omega) (by simp; omega) ?_; intro v' w7 hown' hgrow _ hat))
  refine HK.out _ _ _ _ _ _ _ _ _ _ _ _ _ _ _ _ _ _ _ _ _ _ _ _ _ _ _ _ _ _ _ _ _ _ _ _ _ _ _ _ _ _ _ _ _ _ _ _ _ _ _ _ _ _ _ _ _ _ _ _ _ _ _ _ _ _ _ _ _ _ _ _ _ _ _ _ _ _ _ _ _ _ _ _ _ _ _ _ _ _ _ _ _ _ _ _ _ _ _ _ _ _ _ _ _ _ _ _ _ _ _ _ _ _ _ _ _ _ _ _ _ _ _ _ _ _ _ _ _ _ _ _ _ _ _ _ _ _ _ _ _ _ _ _ _ _ _ _ _ _ _ _ _ _ _ _ _ _ _ _ _ _ _ _ _ _ _ _ _ _ _ _ _ _ _ _ _ _ _ _ _ _ _ _ ?_
  exact new_rel hlt (hrow5.below (below_1 _ _)) hown' hgrow hat (Kids.nil _ _ _) (hz5.alloc _) (below_step hbw5 (below_1 _ _)) HSZ.out HOK.out
end Go.Proofs.YtpfhhdiipedklaaDoor
