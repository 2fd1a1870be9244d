/-
  The document's own hash (assayerref02.Of): the loop over the blocks. WRITTEN BY wip/gen/soreg.py.
-/
import Derived.Test.YtfokemminjikpaaDoorSoJ
namespace Go.Proofs.YtfokemminjikpaaDoor
open Go.RowKit Go.BigFrame
set_option linter.unusedVariables false

noncomputable def loop4c : Code := ((Tryd.f15.body.bind (findLoop 17)).getD .skip)
set_option maxRecDepth 1000000 in
set_option maxHeartbeats 8000000 in
theorem loop4 {u1 u2 u3 u4 u5 u6 u10 u11 u12 u13 u14 u15 u16 u17 u18 u19 u20 u21 u22 u23 u24 u25 u26 u27 u28 u29 u30 u31 u32 u33 u34 u35 u36 u37 u38 u39 u40 u41 u42 u43 u44 u45 u46 u47 u48 u49 u50 u51 u52 u53 u54 u55 u56 u57 u58 u59 u60 u61 u62 u63 u64 u65 u66 u67 u68 u69 u70 u71 u72 u73 u74 u75 u76 u77 u78 u79 u80 u81 u82 u83 u84 u85 u86 u87 u88 u89 u90 u91 u92 u93 u94 u95 u96 u97 u98 u99 u100 u101 u102 u103 u104 u105 u106 u107 u108 u109 u110 u111 u112 u113 u114 u115 u116 u117 u118 u119 u120 u121 u122 u123 u124 u125 u126 u127 u128 u129 u130 u131 u132 u133 u134 u135 u136 u137 u138 u139 u140 u141 u142 u143 u144 u145 u146 u147 u148 u149 u150 u151 u152 u153 u154 u155 u156 u157 u158 u159 u160 u161 u162 u163 u164 u165 u166 u167 u168 u169 u170 u171 u172 u173 u174 u175 u176 u177 u178 u179 u180 u181 u182 u183 u184 u185 u186 u187 u188 u189 u190 u191 u192 u193 u194 u195 u196 u197 u198 u199 u200 u201 u202 u203 u204 u205 u206 u207 u208 u209 u210 u211 u212 u213 u214 u215 u216 u217 u218 u219 u220 u221 u222 u223 u224 u225 u226 u227 u228 u229 u230 u231 u232 u233 u234 u235 u236 u237 u238 u239 u240 u241 u242 u243 u244 u245 u246 u247 u248 u249 u250 u251 u252 u253 u254 u255 u256 u257 u258 u259 u260 u261 u262 u263 u264 u265 u266 u267 u268 u269 u270 u271 u272 u273 u274 u275 u276 u277 u278 u279 u280 u281 u282 u283 : Value} (g h : Nat) (P : List UInt8) (wc : World) (Q : Exit → Act → World → Prop) (hQ : ∀ c a a' w, a'.defers = a.defers → Q (.panic c) a w → Q (.panic c) a' w) (hne : g ≠ h) (hmul : P.length % 64 = 0) (hP : P.length ≤ 600) (hroots : Row wc g 65 (wvs Sh.roots)) (hrow : Row wc h 65 (wvs Sh.st0.list))
    (hexit : ∀  w', (Row w' h 65 (wvs (Sh.mixed P).list) ∧ Keeps (fun q => q = h) wc w') → ∀ t9 t10 t11 t12 t13 t14 t15 t16 t17 t18 t19 t20 t21 t57 t58 t59 t60 t61 t62 t63 t64 t65 t66 t67 t68 t69 t70 t71 t72 t73 t74 t75 t76 t77 t78 t79 t80 t81 t82 t83 t84 t85 t86 t87 t88 t89 t90 t91 t92 t93 t94 t95 t96 t97 t98 t99 t100 t101 t102 t103 t104 t105 t106 t107 t108 t109 t110 t111 t112 t113 t114 t115 t116 t117 t118 t119 t120 t121 t122 t123 t124 t125 t126 t127 t128 t129 t130 t131 t132 t133 t134 t135 t136 t137 t138 t139 t140 t141 t142 t143 t144 t145 t146 t147 t148 t149 t150 t151 t152 t153 t154 t155 t156 t157 t158 t159 t160 t161 t162 t163 t164 t165 t166 t167 t168 t169 t170 t171 t172 t173 t174 t175 t176 t177 t178 t179 t180 t181 t182 t183 t184 t185 t186 t187 t188 t189 t190 t191 t192 t193 t194 t195 t196 t197 t198 t199 t200 t201 t202 t203 t204 t205 t206 t207 t208 t209 t210 t211 t212 t213 t214 t215 t216 t217 t218 t219 t220 t221 t222 t223 t224 t225 t226 t227 t228 t229 t230 t231 t232 t233 t234 t235 t236 t237 t238 t239 t240 : Value, Q (.exit 6) (Act.mk (List.toArray (.string (strOf P) :: u1 :: u2 :: u3 :: u4 :: u5 :: u6 :: .slice (some ⟨g, 0, none⟩) 64 64 :: .slice (some ⟨h, 0, none⟩) 8 8 :: t9 :: t10 :: t11 :: t12 :: t13 :: t14 :: t15 :: t16 :: t17 :: t18 :: t19 :: t20 :: t21 :: u22 :: u23 :: u24 :: u25 :: u26 :: u27 :: u28 :: u29 :: u30 :: u31 :: u32 :: u33 :: u34 :: u35 :: u36 :: u37 :: u38 :: u39 :: u40 :: u41 :: u42 :: u43 :: u44 :: u45 :: u46 :: u47 :: u48 :: u49 :: u50 :: u51 :: u52 :: u53 :: u54 :: u55 :: u56 :: t57 :: t58 :: t59 :: t60 :: t61 :: t62 :: t63 :: t64 :: t65 :: t66 :: t67 :: t68 :: t69 :: t70 :: t71 :: t72 :: t73 :: t74 :: t75 :: t76 :: t77 :: t78 :: t79 :: t80 :: t81 :: t82 :: t83 :: t84 :: t85 :: t86 :: t87 :: t88 :: t89 :: t90 :: t91 :: t92 :: t93 :: t94 :: t95 :: t96 :: t97 :: t98 :: t99 :: t100 :: t101 :: t102 :: t103 :: t104 :: t105 :: t106 :: t107 :: t108 :: t109 :: t110 :: t111 :: t112 :: t113 :: t114 :: t115 :: t116 :: t117 :: t118 :: t119 :: t120 :: t121 :: t122 :: t123 :: t124 :: t125 :: t126 :: t127 :: t128 :: t129 :: t130 :: t131 :: t132 :: t133 :: t134 :: t135 :: t136 :: t137 :: t138 :: t139 :: t140 :: t141 :: t142 :: t143 :: t144 :: t145 :: t146 :: t147 :: t148 :: t149 :: t150 :: t151 :: t152 :: t153 :: t154 :: t155 :: t156 :: t157 :: t158 :: t159 :: t160 :: t161 :: t162 :: t163 :: t164 :: t165 :: t166 :: t167 :: t168 :: t169 :: t170 :: t171 :: t172 :: t173 :: t174 :: t175 :: t176 :: t177 :: t178 :: t179 :: t180 :: t181 :: t182 :: t183 :: t184 :: t185 :: t186 :: t187 :: t188 :: t189 :: t190 :: t191 :: t192 :: t193 :: t194 :: t195 :: t196 :: t197 :: t198 :: t199 :: t200 :: t201 :: t202 :: t203 :: t204 :: t205 :: t206 :: t207 :: t208 :: t209 :: t210 :: t211 :: t212 :: t213 :: t214 :: t215 :: t216 :: t217 :: t218 :: t219 :: t220 :: t221 :: t222 :: t223 :: t224 :: t225 :: t226 :: t227 :: t228 :: t229 :: t230 :: t231 :: t232 :: t233 :: t234 :: t235 :: t236 :: t237 :: t238 :: t239 :: t240 :: u241 :: u242 :: u243 :: u244 :: u245 :: u246 :: u247 :: u248 :: u249 :: u250 :: u251 :: u252 :: u253 :: u254 :: u255 :: u256 :: u257 :: u258 :: u259 :: u260 :: u261 :: u262 :: u263 :: u264 :: u265 :: u266 :: u267 :: u268 :: u269 :: u270 :: u271 :: u272 :: u273 :: u274 :: u275 :: u276 :: u277 :: u278 :: u279 :: u280 :: u281 :: u282 :: u283 :: [])) []) w') : Code.wp Tryd.prog loop4c Q (Act.mk (List.toArray (.string (strOf P) :: u1 :: u2 :: u3 :: u4 :: u5 :: u6 :: .slice (some ⟨g, 0, none⟩) 64 64 :: .slice (some ⟨h, 0, none⟩) 8 8 :: .int .i64 0 :: u10 :: u11 :: u12 :: u13 :: u14 :: u15 :: u16 :: u17 :: u18 :: u19 :: u20 :: u21 :: u22 :: u23 :: u24 :: u25 :: u26 :: u27 :: u28 :: u29 :: u30 :: u31 :: u32 :: u33 :: u34 :: u35 :: u36 :: u37 :: u38 :: u39 :: u40 :: u41 :: u42 :: u43 :: u44 :: u45 :: u46 :: u47 :: u48 :: u49 :: u50 :: u51 :: u52 :: u53 :: u54 :: u55 :: u56 :: u57 :: u58 :: u59 :: u60 :: u61 :: u62 :: u63 :: u64 :: u65 :: u66 :: u67 :: u68 :: u69 :: u70 :: u71 :: u72 :: u73 :: u74 :: u75 :: u76 :: u77 :: u78 :: u79 :: u80 :: u81 :: u82 :: u83 :: u84 :: u85 :: u86 :: u87 :: u88 :: u89 :: u90 :: u91 :: u92 :: u93 :: u94 :: u95 :: u96 :: u97 :: u98 :: u99 :: u100 :: u101 :: u102 :: u103 :: u104 :: u105 :: u106 :: u107 :: u108 :: u109 :: u110 :: u111 :: u112 :: u113 :: u114 :: u115 :: u116 :: u117 :: u118 :: u119 :: u120 :: u121 :: u122 :: u123 :: u124 :: u125 :: u126 :: u127 :: u128 :: u129 :: u130 :: u131 :: u132 :: u133 :: u134 :: u135 :: u136 :: u137 :: u138 :: u139 :: u140 :: u141 :: u142 :: u143 :: u144 :: u145 :: u146 :: u147 :: u148 :: u149 :: u150 :: u151 :: u152 :: u153 :: u154 :: u155 :: u156 :: u157 :: u158 :: u159 :: u160 :: u161 :: u162 :: u163 :: u164 :: u165 :: u166 :: u167 :: u168 :: u169 :: u170 :: u171 :: u172 :: u173 :: u174 :: u175 :: u176 :: u177 :: u178 :: u179 :: u180 :: u181 :: u182 :: u183 :: u184 :: u185 :: u186 :: u187 :: u188 :: u189 :: u190 :: u191 :: u192 :: u193 :: u194 :: u195 :: u196 :: u197 :: u198 :: u199 :: u200 :: u201 :: u202 :: u203 :: u204 :: u205 :: u206 :: u207 :: u208 :: u209 :: u210 :: u211 :: u212 :: u213 :: u214 :: u215 :: u216 :: u217 :: u218 :: u219 :: u220 :: u221 :: u222 :: u223 :: u224 :: u225 :: u226 :: u227 :: u228 :: u229 :: u230 :: u231 :: u232 :: u233 :: u234 :: u235 :: u236 :: u237 :: u238 :: u239 :: u240 :: u241 :: u242 :: u243 :: u244 :: u245 :: u246 :: u247 :: u248 :: u249 :: u250 :: u251 :: u252 :: u253 :: u254 :: u255 :: u256 :: u257 :: u258 :: u259 :: u260 :: u261 :: u262 :: u263 :: u264 :: u265 :: u266 :: u267 :: u268 :: u269 :: u270 :: u271 :: u272 :: u273 :: u274 :: u275 :: u276 :: u277 :: u278 :: u279 :: u280 :: u281 :: u282 :: u283 :: [])) []) wc := by
  conv => arg 2; whnf
  have HRT := Lib.hid hroots
  have HROW := Lib.hid hrow
  clear hroots hrow
  go_loopw [9] (fun atv wq => ∃ t q : Nat, q = 64 * t ∧ q ≤ P.length ∧ atv = .int .i64 (q : Int) ∧ Hid (Row wq h 65 (wvs (Sh.eat t Sh.st0 P).list)) ∧ Keeps (fun k => k = h) wc wq) (fun atv _ => 1000 - (intOf atv).toNat)
  case atStart => exact ⟨0, 0, rfl, by omega, rfl, HROW, Keeps.refl _ _⟩
  case round =>
    clear HROW
    obtain ⟨t, q, hq, hqP, rfl, RT, kt⟩ := hrel
    obtain ⟨wa, hwa⟩ : ∃ wa : World, wa = wr := ⟨_, rfl⟩
    subst hwa
    have hPs : (strOf P).size = P.length := rfl
    have HPS := Lib.hid hPs
    obtain ⟨PL, hPL⟩ : ∃ PL, P.length = PL := ⟨_, rfl⟩
    rw [hPL] at hPs hqP hmul hP
    have HPL := Lib.hid hPL
    clear hPL
    by_cases hlt : q < PL
    · have ht2 : q + 64 ≤ PL := by omega
      obtain ⟨u0, hu0, hv0, hw0, hx0⟩ := info_parts info_u32
      obtain ⟨blk, hblk⟩ : ∃ blk, (P.drop (64 * t)).take 64 = blk := ⟨_, rfl⟩
      have HBLK := Lib.hid hblk
      have KT := Lib.hid kt
      have sa := kt.size
      have gl : g < wa.heap.size := by have := HRT.out.lt; omega
      have hl : h < wa.heap.size := RT.out.lt
      have HQ4 := Lib.hid hq
      clear kt hblk hq hmul
      go_wp2_with fail
      clear hPs
      refine loop5 P blk t q wa _ HQ4.out (by rw [HPL.out]; exact ht2) (by rw [HPL.out]; exact hP) HBLK.out ?_
      intro g6 c6 w5 h5
      obtain ⟨ho5, hk5⟩ := h5
      intros
      have HO5 := Lib.hid ho5
      have HK5 := Lib.hid hk5
      have s5 := hk5.size
      clear ho5 hk5
      try simp only [Exit.inBlock, Exit.then]
      go_wp2_with fail
      refine loop6 g6 c6 wa.heap.size (Sh.firstN 16 blk) w5 _ (fun c a a' w hd hp => hQ _ _ _ _ hd hp) (Sh.firstN_length _ _) s5 HO5.out ?_
      intro g0 c1 w6 h6
      obtain ⟨ho6, hk6⟩ := h6
      intros
      have HO6 : Hid (w6.ownsRow wa.heap.size 65 1 (.slice (some ⟨g0, 0, none⟩) 64 c1) 64 (wvs (Sh.words blk))) := Lib.hid ho6
      have HK6 := Lib.hid (HK5.out.trans hk6)
      have s6 := hk6.size
      clear ho6 hk6 HK5 HO5
      obtain ⟨WS, hWS⟩ : ∃ WS, Sh.words blk = WS := ⟨_, rfl⟩
      rw [hWS] at HO6
      have HWD := Lib.hid hWS
      obtain ⟨SS, hSS⟩ : ∃ SS, Sh.eat t Sh.st0 P = SS := ⟨_, rfl⟩
      have HSS := Lib.hid hSS
      rw [hSS] at RT
      have hrow6 : Row w6 h 65 (wvs SS.list) := RT.out.keeps HK6.out (by omega)
      have hsrc : ∀ j u, (wvs SS.list)[j]? = some u → w6.cell? ((⟨h, 0, none⟩ : Addr).add j) = some u := fun j u hu => by
        rw [add_plain, Nat.zero_add, hrow6.cell]
        exact hu
      have HSRC := Lib.hid hsrc
      clear hWS hSS hrow6 hsrc
      simp only [Exit.inBlock, Exit.then]
      rw [if_pos trivial]
      iterate 9 (first | go_values | go_skip | go_guarded | go_step | go_upon | go_back)
      iterate 8 (first | go_values | go_skip | go_guarded | go_step)
      refine wpList_append_own _ (by rfl) (.tmp 128) (.tmp 129) 72 (by rfl) w6.heap.size 65 u0 (.int .u32 0) 1 4 Tryd.underlying72 hu0 hv0 hw0 hx0 (by rfl) (by decide) (.slice none 0 0) 0 [] (by rfl) (World.ownsRow_nil _ _ _ _) ⟨h, 0, none⟩ 8 8 (wvs SS.list) (by rfl) (by rfl) HSRC.out (wvs_one _) (by unfold maxLen; omega) (by omega) (Nat.le_refl _) ?_
      intro v' wd ho' hg' _
      obtain ⟨gv, cv, rfl⟩ := own_some ho' (by omega)
      rw [List.nil_append] at ho'
      have hkc : Keeps (fun _ => False) w6 wd := (Keeps.refl _ _).grown hg' (fun k _ hh => by cases hh)
      have hvs : Src wd (some ⟨gv, 0, none⟩) (wvs SS.list) := Src.of_own ho'
      have bgv : w6.heap.size ≤ gv := (own_block ho' gv rfl).elim fun _ h => h.2
      have bwd := hkc.size
      have HVS := Lib.hid hvs
      have HKC : Hid (Keeps (fun k => wa.heap.size ≤ k) wa wd) := Lib.hid (HK6.out.trans' hkc (fun _ _ h => h.elim))
      have HOC : Hid (wd.ownsRow wa.heap.size 65 1 (.slice (some ⟨g0, 0, none⟩) 64 c1) 64 (wvs WS)) := Lib.hid (hkc.owns HO6.out (fun _ _ => id))
      have HROOT : Hid (Row wd g 65 (wvs Sh.roots)) := Lib.hid ((HRT.out.keeps KT.out hne).keeps HKC.out (by omega))
      have HROWD : Hid (Row wd h 65 (wvs SS.list)) := Lib.hid (RT.out.keeps HKC.out (by omega))
      clear ho' hg' hkc hvs HSRC HO6 HK6
      go_wp2_with fail
      refine loop7 gv cv g g0 c1 w6.heap.size SS blk wd _ bgv bwd HVS.out ?_ ?_ ?_
      · intro V hV k x hx
        have r2 : Row V g 65 (wvs Sh.roots) := HROOT.out.keeps hV.out id
        rw [r2.cell, wvs_get, hx.out]
        rfl
      · intro V hV k y hy
        have h1 := hy.out
        rw [HWD.out] at h1
        have h2 := (hV.out.owns HOC.out (fun _ _ => id)).cells (g := g0) rfl k (.int .u32 (wi y)) (by rw [wvs_get, h1]; rfl)
        rwa [add_plain, Nat.zero_add] at h2
      intro gs cs w7 h7
      obtain ⟨k7, b7, v7⟩ := h7
      intros
      have K7 := Lib.hid k7
      have V7 := Lib.hid v7
      have R7 : Hid (Row w7 h 65 (wvs SS.list)) := Lib.hid (HROWD.out.keeps k7.out id)
      have g8 : gs ≠ h := by omega
      clear k7 v7 HROWD HVS HOC HROOT b7 bgv bwd s5 s6 sa
      simp only [Exit.inBlock, Exit.then]
      rw [if_pos trivial]
      iterate 10 (first | go_values | go_skip | go_guarded | go_step | go_upon | go_back)
      refine loop8 h gs cs SS (after SS blk 64) w7 _ g8 R7.out V7.out ?_
      intro w8 h8
      obtain ⟨r8, k8⟩ := h8
      intros
      rw [after_all, ← HSS.out, ← HBLK.out, ← Sh.eat_snoc] at r8
      have HR8 := Lib.hid r8
      have HK8 : Hid (Keeps (fun k => k = h) wc w8) := Lib.hid (((KT.out.trans' HKC.out (fun k hk hh => by have := KT.out.size; omega)).trans' K7.out.out (fun _ _ h => h.elim)).trans k8)
      clear r8 k8
      simp only [Exit.inBlock, Exit.then]
      rw [if_pos trivial]
      go_wp2_with fail
      go_roundw
      case rel => exact ⟨t + 1, q + 64, by have := HQ4.out; omega, by rw [HPL.out]; omega, by go_num, HR8, HK8.out⟩
      case measure => simp [intOf]; omega
    · have eq1 : q = PL := by omega
      have et : Sh.eat t Sh.st0 P = Sh.mixed P := by
        unfold Sh.mixed
        rw [HPL.out, show t = PL / 64 by omega]
      rw [et] at RT
      have hfin := hexit wa ⟨RT.out, kt⟩
      clear hexit hq hmul et eq1 HRT kt
      go_wp2_with fail
      exact hfin _ _ _ _ _ _ _ _ _ _ _ _ _ _ _ _ _ _ _ _ _ _ _ _ _ _ _ _ _ _ _ _ _ _ _ _ _ _ _ _ _ _ _ _ _ _ _ _ _ _ _ _ _ _ _ _ _ _ _ _ _ _ _ _ _ _ _ _ _ _ _ _ _ _ _ _ _ _ _ _ _ _ _ _ _ _ _ _ _ _ _ _ _ _ _ _ _ _ _ _ _ _ _ _ _ _ _ _ _ _ _ _ _ _ _ _ _ _ _ _ _ _ _ _ _ _ _ _ _ _ _ _ _ _ _ _ _ _ _ _ _ _ _ _ _ _ _ _ _ _ _ _ _ _ _ _ _ _ _ _ _ _ _ _ _ _ _ _ _ _ _ _ _ _ _ _ _ _ _ _ _ _ _ _ _ _ _ _ _ _ _ _ _ _ _ _ _

end Go.Proofs.YtfokemminjikpaaDoor
