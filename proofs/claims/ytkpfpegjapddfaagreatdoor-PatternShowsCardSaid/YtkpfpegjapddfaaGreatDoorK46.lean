/- Texts that a proof rests on: A case of the round of homographref02.Make. -/
import Derived.Test.YtkpfpegjapddfaaGreatDoorK35
import Derived.Deep.CutRange
set_option maxRecDepth 100000
namespace Go.Proofs.YtkpfpegjapddfaaGreatDoor
open Go.RowKit

set_option maxHeartbeats 8000000 in
theorem mk_byte (s : ByteArray) (w wr : World) (hlen : s.size ≤ 1000) (k : Nat) (L : List (Pat × Value)) (a : Option Addr) (cap : Nat) (hlt : k < s.size) (HSZ : Hid (Pat.sizes (L.map Prod.fst) ≤ k)) (HOK : Hid (okV L = true))
    (hrow : NRow wr (w.heap.size + 1) (.slice a L.length cap) L) (hz : Box wr w.heap.size z8) (hbw : Below w.heap.size w wr) (hcase : s[k].toNat % 8 = 0 ∨ s[k].toNat % 8 = 1 ∨ (s[k].toNat % 8 = 3 ∧ L.length ≤ 1) ∨ (s[k].toNat % 8 = 4 ∧ L.length ≤ 1) ∨ (s[k].toNat % 8 = 5 ∧ L.length < 1) ∨ (s[k].toNat % 8 = 6 ∧ L.length ≤ 1) ∨ (s[k].toNat % 8 = 7 ∧ L.length < 1)) (K : Act → World → Prop) (t1 t5 t6 t7 t8 t9 t10 t11 t12 t13 t14 t15 t16 t17 t18 t19 t20 t21 t22 t23 t24 t25 t26 t27 t28 t29 t30 t31 t32 t33 t34 t35 t36 t37 t38 t39 t40 t41 t42 t43 t44 t45 t46 t47 t48 t49 t50 t51 t52 t53 t54 t55 t56 t57 t58 t59 t60 t61 t62 t63 t64 t65 t66 t67 t68 t69 t70 t71 t72 t73 t74 t75 t76 t77 t78 t79 t80 t81 t82 t83 t84 t85 t86 t87 t88 t89 t90 t91 t92 t93 t94 t95 t96 t97 t98 t99 t100 t101 t102 t103 t104 t105 t106 t107 t108 t109 t110 t111 t112 t113 t114 t115 t116 t117 t118 t119 t120 t121 t122 t123 t124 t125 t126 t127 t128 t129 t130 t131 t132 t133 t134 t135 t136 t137 t138 t139 t140 t141 t142 t143 t144 t145 t146 t147 t148 t149 t150 t151 t152 t153 t154 t155 t156 t157 t158 t159 t160 t161 t162 t163 t164 t165 t166 t167 t168 t169 t170 t171 t172 t173 t174 t175 t176 t177 t178 t179 t180 t181 t182 t183 t184 t185 t186 t187 t188 t189 t190 t191 t192 t193 t194 : Value)
    (HK : Hid (∀ (v5 v6 v7 v8 v9 v10 v11 v12 v13 v14 v15 v16 v17 v18 v19 v20 v21 v22 v23 v24 v25 v26 v27 v28 v29 v30 v31 v32 v33 v34 v35 v36 v37 v38 v39 v40 v41 v42 v43 v44 v45 v46 v47 v48 v49 v50 v51 v52 v53 v54 v55 v56 v57 v58 v59 v60 v61 v62 v63 v64 v65 v66 v67 v68 v69 v70 v71 v72 v73 v74 v75 v76 v77 v78 v79 v80 v81 v82 v83 v84 v85 v86 v87 v88 v89 v90 v91 v92 v93 v94 v95 v96 v97 v98 v99 v100 v101 v102 v103 v104 v105 v106 v107 v108 v109 v110 v111 v112 v113 v114 v115 v116 v117 v118 v119 v120 v121 v122 v123 v124 v125 v126 v127 v128 v129 v130 v131 v132 v133 v134 v135 v136 v137 v138 v139 v140 v141 v142 v143 v144 v145 v146 v147 v148 v149 v150 v151 v152 v153 v154 v155 v156 v157 v158 v159 v160 v161 v162 v163 v164 v165 v166 v167 v168 v169 v170 v171 v172 v173 v174 v175 v176 v177 v178 v179 v180 v181 v182 v183 v184 v185 v186 : Value) (v : Value) (w' : World), MkRel s.size w (k + 1) v w' → K ⟨#[.string s, t1, .pointer (some ⟨w.heap.size, 0, none⟩), v, .int .i64 (↑k + 1), v5, v6, v7, v8, v9, v10, v11, v12, v13, v14, v15, v16, v17, v18, v19, v20, v21, v22, v23, v24, v25, v26, v27, v28, v29, v30, v31, v32, v33, v34, v35, v36, v37, v38, v39, v40, v41, v42, v43, v44, v45, v46, v47, v48, v49, v50, v51, v52, v53, v54, v55, v56, v57, v58, v59, v60, v61, v62, v63, v64, v65, v66, v67, v68, v69, v70, v71, v72, v73, v74, v75, v76, v77, v78, v79, v80, v81, v82, v83, v84, v85, v86, v87, v88, v89, v90, v91, v92, v93, v94, v95, v96, v97, v98, v99, v100, v101, v102, v103, v104, v105, v106, v107, v108, v109, v110, v111, v112, v113, v114, v115, v116, v117, v118, v119, v120, v121, v122, v123, v124, v125, v126, v127, v128, v129, v130, v131, v132, v133, v134, v135, v136, v137, v138, v139, v140, v141, v142, v143, v144, v145, v146, v147, v148, v149, v150, v151, v152, v153, v154, v155, v156, v157, v158, v159, v160, v161, v162, v163, v164, v165, v166, v167, v168, v169, v170, v171, v172, v173, v174, v175, v176, v177, v178, v179, v180, v181, v182, v183, v184, v185, v186, t187, t188, t189, t190, t191, t192, t193, t194], []⟩ w')) :
    Code.wp Tryz.prog mkBody (Exit.then K (fun _ _ _ => False)) ⟨#[.string s, t1, .pointer (some ⟨w.heap.size, 0, none⟩), .slice a L.length cap, .int .i64 k, t5, t6, t7, t8, t9, t10, t11, t12, t13, t14, t15, t16, t17, t18, t19, t20, t21, t22, t23, t24, t25, t26, t27, t28, t29, t30, t31, t32, t33, t34, t35, t36, t37, t38, t39, t40, t41, t42, t43, t44, t45, t46, t47, t48, t49, t50, t51, t52, t53, t54, t55, t56, t57, t58, t59, t60, t61, t62, t63, t64, t65, t66, t67, t68, t69, t70, t71, t72, t73, t74, t75, t76, t77, t78, t79, t80, t81, t82, t83, t84, t85, t86, t87, t88, t89, t90, t91, t92, t93, t94, t95, t96, t97, t98, t99, t100, t101, t102, t103, t104, t105, t106, t107, t108, t109, t110, t111, t112, t113, t114, t115, t116, t117, t118, t119, t120, t121, t122, t123, t124, t125, t126, t127, t128, t129, t130, t131, t132, t133, t134, t135, t136, t137, t138, t139, t140, t141, t142, t143, t144, t145, t146, t147, t148, t149, t150, t151, t152, t153, t154, t155, t156, t157, t158, t159, t160, t161, t162, t163, t164, t165, t166, t167, t168, t169, t170, t171, t172, t173, t174, t175, t176, t177, t178, t179, t180, t181, t182, t183, t184, t185, t186, t187, t188, t189, t190, t191, t192, t193, t194], []⟩ wr := by
  conv => arg 2; whnf
  obtain ⟨i0, hi, hy0, hy1, hy2⟩ := info_parts infoNode
  have hls := hz.lt
  have hll : L.length ≤ k := by have := length_sizes (L.map Prod.fst); have := HSZ.out; simp at *; omega
  have hcl : s[k].toNat < 256 := s[k].toNat_lt
  have hcm : s[k].toNat % 8 < 8 := Nat.mod_lt _ (by omega)
  go_wp2_with fail
  go_at_call 17
  refine (rwith_zero (97 + s[k].toNat / 8 % 3) (by omega) _).mono ?_
  rintro e w1 ⟨rfl, hb1⟩
  go_wp2_with fail
  go_at_call 9
  refine (rset_any _ _).mono ?_
  rintro e w2 ⟨rfl, hb2⟩
  have hrow2 := (hrow.below hb1).below hb2
  have hz2 := (hz.below hb1).below hb2
  have hlz := hz2.lt
  have hbw2 : Below w.heap.size w w2 := by have h1 := hbw.trans (hb1.mono hbw.size); exact h1.trans (hb2.mono h1.size)
  clear hb1 hb2 hrow hz hbw w1 hls
  generalize s[k].toNat = c at *
  obtain ⟨w3, hw3⟩ : ∃ w3, w3 = w2.alloc (.cells #[.int .i64 (Pat.mk 0 (put (0#256) (97 + c / 8 % 3)) 0 0 []).op, .int .u64 (wd (Pat.mk 0 (put (0#256) (97 + c / 8 % 3)) 0 0 []).set 0), .int .u64 (wd (Pat.mk 0 (put (0#256) (97 + c / 8 % 3)) 0 0 []).set 1), .int .u64 (wd (Pat.mk 0 (put (0#256) (97 + c / 8 % 3)) 0 0 []).set 2), .int .u64 (wd (Pat.mk 0 (put (0#256) (97 + c / 8 % 3)) 0 0 []).set 3), .int .i64 (Pat.mk 0 (put (0#256) (97 + c / 8 % 3)) 0 0 []).lo, .int .i64 (Pat.mk 0 (put (0#256) (97 + c / 8 % 3)) 0 0 []).hi, .slice none 0 0] 28) := ⟨_, rfl⟩
  have hal : Below w2.heap.size w2 w3 := by rw [hw3]; exact (Below.refl _ _).alloc (Nat.le_refl _) _
  have hrow3 := hrow2.below hal
  have hz3 := hz2.below hal
  have hbw3 := below_step hbw2 hal
  have hlz3 := hz3.lt
  have hbx3 : Box w3 w2.heap.size #[.int .i64 (Pat.mk 0 (put (0#256) (97 + c / 8 % 3)) 0 0 []).op, .int .u64 (wd (Pat.mk 0 (put (0#256) (97 + c / 8 % 3)) 0 0 []).set 0), .int .u64 (wd (Pat.mk 0 (put (0#256) (97 + c / 8 % 3)) 0 0 []).set 1), .int .u64 (wd (Pat.mk 0 (put (0#256) (97 + c / 8 % 3)) 0 0 []).set 2), .int .u64 (wd (Pat.mk 0 (put (0#256) (97 + c / 8 % 3)) 0 0 []).set 3), .int .i64 (Pat.mk 0 (put (0#256) (97 + c / 8 % 3)) 0 0 []).lo, .int .i64 (Pat.mk 0 (put (0#256) (97 + c / 8 % 3)) 0 0 []).hi, .slice none 0 0] := by rw [hw3]; exact Box.new _ _ rfl
  obtain ⟨p0, p1, p2, p3, p4, p5, p6, p7⟩ := hbx3.cells
  clear hbx3
  have HW3 := Lib.hid hw3
  clear hw3 hal hrow2 hz2 hbw2 hlz
  rcases hcase with hr | hr | ⟨hr, hl⟩ | ⟨hr, hl⟩ | ⟨hr, hl⟩ | ⟨hr, hl⟩ | ⟨hr, hl⟩
  all_goals
    go_upto_region 8 with fail
    rw [← HW3.out]
    go_wp2_with (at_builtin; refine wpList_append_own_at _ rfl _ _ 26 rfl (w.heap.size + 1) 28 i0 (.agg #[.int .i64 0, .int .u64 0, .int .u64 0, .int .u64 0, .int .u64 0, .int .i64 0, .int .i64 0, .slice none 0 0]) 8 80 Tryz.underlying26 hi hy0 hy1 hy2 rfl (by decide) _ _ _ rfl (hrow3.1.alloc _) ⟨w3.heap.size, 0, none⟩ 1 1 [.int .i64 (Pat.mk 0 (put (0#256) (97 + c / 8 % 3)) 0 0 []).op, .int .u64 (wd (Pat.mk 0 (put (0#256) (97 + c / 8 % 3)) 0 0 []).set 0), .int .u64 (wd (Pat.mk 0 (put (0#256) (97 + c / 8 % 3)) 0 0 []).set 1), .int .u64 (wd (Pat.mk 0 (put (0#256) (97 + c / 8 % 3)) 0 0 []).set 2), .int .u64 (wd (Pat.mk 0 (put (0#256) (97 + c / 8 % 3)) 0 0 []).set 3), .int .i64 (Pat.mk 0 (put (0#256) (97 + c / 8 % 3)) 0 0 []).lo, .int .i64 (Pat.mk 0 (put (0#256) (97 + c / 8 % 3)) 0 0 []).hi, .slice none 0 0] rfl rfl (cell_eight_new _ _ _ _) (by simp [Value.oneCell']) (by unfold maxLen; omega) (by omega) (by simp; omega) ?_; intro v' w7 hown' hgrow _ hat)
    refine HK.out _ _ _ _ _ _ _ _ _ _ _ _ _ _ _ _ _ _ _ _ _ _ _ _ _ _ _ _ _ _ _ _ _ _ _ _ _ _ _ _ _ _ _ _ _ _ _ _ _ _ _ _ _ _ _ _ _ _ _ _ _ _ _ _ _ _ _ _ _ _ _ _ _ _ _ _ _ _ _ _ _ _ _ _ _ _ _ _ _ _ _ _ _ _ _ _ _ _ _ _ _ _ _ _ _ _ _ _ _ _ _ _ _ _ _ _ _ _ _ _ _ _ _ _ _ _ _ _ _ _ _ _ _ _ _ _ _ _ _ _ _ _ _ _ _ _ _ _ _ _ _ _ _ _ _ _ _ _ _ _ _ _ _ _ _ _ _ _ _ _ _ _ _ _ _ _ _ _ _ _ _ _ _ _ ?_
    exact new_rel hlt (hrow3.below (below_1 _ _)) hown' hgrow hat (Kids.nil _ _ _) (hz3.alloc _) (below_step hbw3 (below_1 _ _)) HSZ.out HOK.out
end Go.Proofs.YtkpfpegjapddfaaGreatDoor
