/-
  The document's own hash (assayerref02.Of): a block's first numbers, and the bytes at the end. WRITTEN BY wip/gen/soreg.py.
-/
import Derived.Test.YtfokemminjikpaaDoorSoI
import Derived.Test.YtfokemminjikpaaDoorShaF
namespace Go.Proofs.YtfokemminjikpaaDoor
open Go.RowKit Go.BigFrame
set_option linter.unusedVariables false

noncomputable def loop5c : Code := ((Tryd.f15.body.bind (findLoop 21)).getD .skip)
set_option maxRecDepth 1000000 in
set_option maxHeartbeats 8000000 in
theorem loop5 {u1 u2 u3 u4 u5 u6 u7 u8 u12 u13 u14 u15 u16 u17 u18 u19 u20 u21 u22 u23 u24 u25 u26 u27 u28 u29 u30 u31 u32 u33 u34 u35 u36 u37 u38 u39 u40 u41 u42 u43 u44 u45 u46 u47 u48 u49 u50 u51 u52 u53 u54 u55 u56 u57 u58 u59 u60 u61 u62 u63 u64 u65 u66 u67 u68 u69 u70 u71 u72 u73 u74 u75 u76 u77 u78 u79 u80 u81 u82 u83 u84 u85 u86 u87 u88 u89 u90 u91 u92 u93 u94 u95 u96 u97 u98 u99 u100 u101 u102 u103 u104 u105 u106 u107 u108 u109 u110 u111 u112 u113 u114 u115 u116 u117 u118 u119 u120 u121 u122 u123 u124 u125 u126 u127 u128 u129 u130 u131 u132 u133 u134 u135 u136 u137 u138 u139 u140 u141 u142 u143 u144 u145 u146 u147 u148 u149 u150 u151 u152 u153 u154 u155 u156 u157 u158 u159 u160 u161 u162 u163 u164 u165 u166 u167 u168 u169 u170 u171 u172 u173 u174 u175 u176 u177 u178 u179 u180 u181 u182 u183 u184 u185 u186 u187 u188 u189 u190 u191 u192 u193 u194 u195 u196 u197 u198 u199 u200 u201 u202 u203 u204 u205 u206 u207 u208 u209 u210 u211 u212 u213 u214 u215 u216 u217 u218 u219 u220 u221 u222 u223 u224 u225 u226 u227 u228 u229 u230 u231 u232 u233 u234 u235 u236 u237 u238 u239 u240 u241 u242 u243 u244 u245 u246 u247 u248 u249 u250 u251 u252 u253 u254 u255 u256 u257 u258 u259 u260 u261 u262 u263 u264 u265 u266 u267 u268 u269 u270 u271 u272 u273 u274 u275 u276 u277 u278 u279 u280 u281 u282 u283 : Value} (P blk : List UInt8) (t q : Nat) (wc : World) (Q : Exit → Act → World → Prop) (hq : q = 64 * t) (hq2 : q + 64 ≤ P.length) (hq3 : P.length ≤ 600) (hblk : (P.drop (64 * t)).take 64 = blk)
    (hexit : ∀ g6 c6 w', (w'.ownsRow wc.heap.size 65 1 (.slice (some ⟨g6, 0, none⟩) 16 c6) 16 (wvs (Sh.firstN 16 blk)) ∧ Keeps (fun k => wc.heap.size ≤ k) wc w') → ∀ t11 t63 t64 t65 t66 t67 t68 t69 t70 t71 t72 t73 t74 t75 t76 t77 t78 t79 t80 t81 : Value, Q (.exit 8) (Act.mk (List.toArray (.string (strOf P) :: u1 :: u2 :: u3 :: u4 :: u5 :: u6 :: u7 :: u8 :: .int .i64 (q : Int) :: .slice (some ⟨g6, 0, none⟩) 16 c6 :: t11 :: u12 :: u13 :: u14 :: u15 :: u16 :: u17 :: u18 :: u19 :: u20 :: u21 :: u22 :: u23 :: u24 :: u25 :: u26 :: u27 :: u28 :: u29 :: u30 :: u31 :: u32 :: u33 :: u34 :: u35 :: u36 :: u37 :: u38 :: u39 :: u40 :: u41 :: u42 :: u43 :: u44 :: u45 :: u46 :: u47 :: u48 :: u49 :: u50 :: u51 :: u52 :: u53 :: u54 :: u55 :: u56 :: u57 :: u58 :: u59 :: u60 :: u61 :: u62 :: t63 :: t64 :: t65 :: t66 :: t67 :: t68 :: t69 :: t70 :: t71 :: t72 :: t73 :: t74 :: t75 :: t76 :: t77 :: t78 :: t79 :: t80 :: t81 :: u82 :: u83 :: u84 :: u85 :: u86 :: u87 :: u88 :: u89 :: u90 :: u91 :: u92 :: u93 :: u94 :: u95 :: u96 :: u97 :: u98 :: u99 :: u100 :: u101 :: u102 :: u103 :: u104 :: u105 :: u106 :: u107 :: u108 :: u109 :: u110 :: u111 :: u112 :: u113 :: u114 :: u115 :: u116 :: u117 :: u118 :: u119 :: u120 :: u121 :: u122 :: u123 :: u124 :: u125 :: u126 :: u127 :: u128 :: u129 :: u130 :: u131 :: u132 :: u133 :: u134 :: u135 :: u136 :: u137 :: u138 :: u139 :: u140 :: u141 :: u142 :: u143 :: u144 :: u145 :: u146 :: u147 :: u148 :: u149 :: u150 :: u151 :: u152 :: u153 :: u154 :: u155 :: u156 :: u157 :: u158 :: u159 :: u160 :: u161 :: u162 :: u163 :: u164 :: u165 :: u166 :: u167 :: u168 :: u169 :: u170 :: u171 :: u172 :: u173 :: u174 :: u175 :: u176 :: u177 :: u178 :: u179 :: u180 :: u181 :: u182 :: u183 :: u184 :: u185 :: u186 :: u187 :: u188 :: u189 :: u190 :: u191 :: u192 :: u193 :: u194 :: u195 :: u196 :: u197 :: u198 :: u199 :: u200 :: u201 :: u202 :: u203 :: u204 :: u205 :: u206 :: u207 :: u208 :: u209 :: u210 :: u211 :: u212 :: u213 :: u214 :: u215 :: u216 :: u217 :: u218 :: u219 :: u220 :: u221 :: u222 :: u223 :: u224 :: u225 :: u226 :: u227 :: u228 :: u229 :: u230 :: u231 :: u232 :: u233 :: u234 :: u235 :: u236 :: u237 :: u238 :: u239 :: u240 :: u241 :: u242 :: u243 :: u244 :: u245 :: u246 :: u247 :: u248 :: u249 :: u250 :: u251 :: u252 :: u253 :: u254 :: u255 :: u256 :: u257 :: u258 :: u259 :: u260 :: u261 :: u262 :: u263 :: u264 :: u265 :: u266 :: u267 :: u268 :: u269 :: u270 :: u271 :: u272 :: u273 :: u274 :: u275 :: u276 :: u277 :: u278 :: u279 :: u280 :: u281 :: u282 :: u283 :: [])) []) w') : Code.wp Tryd.prog loop5c Q (Act.mk (List.toArray (.string (strOf P) :: u1 :: u2 :: u3 :: u4 :: u5 :: u6 :: u7 :: u8 :: .int .i64 (q : Int) :: .slice none 0 0 :: .int .i64 0 :: u12 :: u13 :: u14 :: u15 :: u16 :: u17 :: u18 :: u19 :: u20 :: u21 :: u22 :: u23 :: u24 :: u25 :: u26 :: u27 :: u28 :: u29 :: u30 :: u31 :: u32 :: u33 :: u34 :: u35 :: u36 :: u37 :: u38 :: u39 :: u40 :: u41 :: u42 :: u43 :: u44 :: u45 :: u46 :: u47 :: u48 :: u49 :: u50 :: u51 :: u52 :: u53 :: u54 :: u55 :: u56 :: u57 :: u58 :: u59 :: u60 :: u61 :: u62 :: u63 :: u64 :: u65 :: u66 :: u67 :: u68 :: u69 :: u70 :: u71 :: u72 :: u73 :: u74 :: u75 :: u76 :: u77 :: u78 :: u79 :: u80 :: u81 :: u82 :: u83 :: u84 :: u85 :: u86 :: u87 :: u88 :: u89 :: u90 :: u91 :: u92 :: u93 :: u94 :: u95 :: u96 :: u97 :: u98 :: u99 :: u100 :: u101 :: u102 :: u103 :: u104 :: u105 :: u106 :: u107 :: u108 :: u109 :: u110 :: u111 :: u112 :: u113 :: u114 :: u115 :: u116 :: u117 :: u118 :: u119 :: u120 :: u121 :: u122 :: u123 :: u124 :: u125 :: u126 :: u127 :: u128 :: u129 :: u130 :: u131 :: u132 :: u133 :: u134 :: u135 :: u136 :: u137 :: u138 :: u139 :: u140 :: u141 :: u142 :: u143 :: u144 :: u145 :: u146 :: u147 :: u148 :: u149 :: u150 :: u151 :: u152 :: u153 :: u154 :: u155 :: u156 :: u157 :: u158 :: u159 :: u160 :: u161 :: u162 :: u163 :: u164 :: u165 :: u166 :: u167 :: u168 :: u169 :: u170 :: u171 :: u172 :: u173 :: u174 :: u175 :: u176 :: u177 :: u178 :: u179 :: u180 :: u181 :: u182 :: u183 :: u184 :: u185 :: u186 :: u187 :: u188 :: u189 :: u190 :: u191 :: u192 :: u193 :: u194 :: u195 :: u196 :: u197 :: u198 :: u199 :: u200 :: u201 :: u202 :: u203 :: u204 :: u205 :: u206 :: u207 :: u208 :: u209 :: u210 :: u211 :: u212 :: u213 :: u214 :: u215 :: u216 :: u217 :: u218 :: u219 :: u220 :: u221 :: u222 :: u223 :: u224 :: u225 :: u226 :: u227 :: u228 :: u229 :: u230 :: u231 :: u232 :: u233 :: u234 :: u235 :: u236 :: u237 :: u238 :: u239 :: u240 :: u241 :: u242 :: u243 :: u244 :: u245 :: u246 :: u247 :: u248 :: u249 :: u250 :: u251 :: u252 :: u253 :: u254 :: u255 :: u256 :: u257 :: u258 :: u259 :: u260 :: u261 :: u262 :: u263 :: u264 :: u265 :: u266 :: u267 :: u268 :: u269 :: u270 :: u271 :: u272 :: u273 :: u274 :: u275 :: u276 :: u277 :: u278 :: u279 :: u280 :: u281 :: u282 :: u283 :: [])) []) wc := by
  conv => arg 2; whnf
  have hPs : (strOf P).size = P.length := rfl
  obtain ⟨PL, hPL⟩ : ∃ PL, P.length = PL := ⟨_, rfl⟩
  rw [hPL] at hPs hq2 hq3
  have HPL := Lib.hid hPL
  have HQ := Lib.hid hq
  have HBLK := Lib.hid hblk
  obtain ⟨v0, hv0, hz0, hw0, hx0⟩ := info_parts info_u32
  clear hPL hq hblk
  go_loopw [10, 11] (fun v iv wx => ∃ (i : Nat) (A0 : Option Addr) (c0 : Nat), i ≤ 16 ∧ iv = .int .i64 i ∧ v = .slice A0 i c0 ∧ Hid (wx.ownsRow wc.heap.size 65 1 (.slice A0 i c0) i (wvs (Sh.firstN i blk))) ∧ Keeps (fun k => wc.heap.size ≤ k) wc wx) (fun _ iv _ => 16 - (intOf iv).toNat)
  case atStart => exact ⟨0, none, 0, by omega, rfl, rfl, Lib.hid (World.ownsRow_nil _ _ _ _), Keeps.refl _ _⟩
  case round =>
    obtain ⟨i, A0, c0, hi, rfl, rfl, HO, kx⟩ := hrel
    by_cases hlt2 : i < 16
    · obtain ⟨a, b, c, d, hcut, hwd⟩ := cut_four P t i hlt2 (by rw [HPL.out, ← HQ.out]; exact hq2)
      rw [HBLK.out] at hwd
      rw [← HQ.out] at hcut
      have l1 : (q : Int) + 4 * i + 4 ≤ (PL : Int) := by omega
      have n1 : ((q : Int) + 4 * i).toNat = q + 4 * i := by omega
      have n2 : ((q : Int) + 4 * i + 4).toNat = q + 4 * i + 4 := by omega
      have hq4 : (q : Int) ≤ 600 := by omega
      have hnext : wvs (Sh.firstN i blk) ++ [.int .u32 (wi (Sh.wd [a, b, c, d]))] = wvs (Sh.firstN (i + 1) blk) := by
        rw [firstN_snoc, hwd]
        unfold wvs
        rw [List.map_append]
        rfl
      have HNX := Lib.hid hnext
      have sx := kx.size
      clear hwd hnext
      go_wp2_with fail
      refine (number_any a b c d _).mono ?_
      rintro e w9 ⟨rfl, q9, rfl⟩
      have hk9 : Keeps (fun k => wc.heap.size ≤ k) wc ((wr.drewN q9).alloc (.cells #[.int .u32 (wi (Sh.wd [a, b, c, d]))] 65)) := (kx.drewN q9).alloc _
      have ho9 : ((wr.drewN q9).alloc (.cells #[.int .u32 (wi (Sh.wd [a, b, c, d]))] 65)).ownsRow wc.heap.size 65 1 (.slice A0 i c0) i (wvs (Sh.firstN i blk)) := Keeps.owns (S := fun _ => False) (((Keeps.refl _ _).drewN q9).alloc _) HO.out (fun _ _ => id)
      have HK9 := Lib.hid hk9
      have HO9 := Lib.hid ho9
      obtain ⟨M, hM⟩ : ∃ M, wi (Sh.wd [a, b, c, d]) = M := ⟨_, rfl⟩
      rw [hM] at HK9 HO9 HNX
      have hnews : ∀ j u, [Value.int .u32 M][j]? = some u → ((wr.drewN q9).alloc (.cells #[.int .u32 M] 65)).cell? ((⟨wr.heap.size, 0, none⟩ : Addr).add j) = some u := World.news_of_block (heap_alloc_new (wr.drewN q9) _)
      have HNW := Lib.hid hnews
      clear hk9 ho9 hnews hcut
      go_wp2_with (refine wpList_append_own _ (by rfl) (.tmp 67) (.tmp 80) 72 (by rfl) wc.heap.size 65 v0 (.int .u32 0) 1 4 Tryd.underlying72 hv0 hz0 hw0 hx0 (by rfl) (by decide) (.slice A0 i c0) i (wvs (Sh.firstN i blk)) (by rfl) HO9.out ⟨wr.heap.size, 0, none⟩ 1 1 [.int .u32 M] (by rfl) (by rfl) HNW.out (by intro u hu; rw [List.mem_singleton] at hu; subst hu; rfl) (by unfold maxLen; omega) (by omega) (by simp; omega) ?_; intro v' w' ho' hg' _)
      obtain ⟨A1, c1, rfl⟩ := own_slice ho'
      rw [HNX.out] at ho'
      have hkw : Keeps (fun k => wc.heap.size ≤ k) wc w' := HK9.out.grown hg' (fun k hk hh => (own_block HO9.out k hh).elim fun _ h => h.2)
      go_roundw
      case rel => exact ⟨i + 1, A1, c1, by omega, by go_num, rfl, Lib.hid ho', hkw⟩
      case measure => simp [intOf]; omega
    · obtain rfl : i = 16 := by omega
      obtain ⟨g6, c6, hg6⟩ := own_some HO.out (by omega)
      injection hg6 with e1 e2 e3
      subst e1 e3
      have hfin := hexit g6 c0 wr ⟨HO.out, kx⟩
      clear hexit
      go_wp2_with fail
      exact hfin _ _ _ _ _ _ _ _ _ _ _ _ _ _ _ _ _ _ _ _

noncomputable def loop9c : Code := ((Tryd.f15.body.bind (findLoop 46)).getD .skip)
set_option maxRecDepth 1000000 in
set_option maxHeartbeats 8000000 in
theorem loop9 {u0 u1 u2 u3 u4 u5 u6 u7 u9 u10 u11 u12 u13 u14 u15 u16 u17 u18 u19 u20 u21 u24 u25 u26 u27 u28 u29 u30 u31 u32 u33 u34 u35 u36 u37 u38 u39 u40 u41 u42 u43 u44 u45 u46 u47 u48 u49 u50 u51 u52 u53 u54 u55 u56 u57 u58 u59 u60 u61 u62 u63 u64 u65 u66 u67 u68 u69 u70 u71 u72 u73 u74 u75 u76 u77 u78 u79 u80 u81 u82 u83 u84 u85 u86 u87 u88 u89 u90 u91 u92 u93 u94 u95 u96 u97 u98 u99 u100 u101 u102 u103 u104 u105 u106 u107 u108 u109 u110 u111 u112 u113 u114 u115 u116 u117 u118 u119 u120 u121 u122 u123 u124 u125 u126 u127 u128 u129 u130 u131 u132 u133 u134 u135 u136 u137 u138 u139 u140 u141 u142 u143 u144 u145 u146 u147 u148 u149 u150 u151 u152 u153 u154 u155 u156 u157 u158 u159 u160 u161 u162 u163 u164 u165 u166 u167 u168 u169 u170 u171 u172 u173 u174 u175 u176 u177 u178 u179 u180 u181 u182 u183 u184 u185 u186 u187 u188 u189 u190 u191 u192 u193 u194 u195 u196 u197 u198 u199 u200 u201 u202 u203 u204 u205 u206 u207 u208 u209 u210 u211 u212 u213 u214 u215 u216 u217 u218 u219 u220 u221 u222 u223 u224 u225 u226 u227 u228 u229 u230 u231 u232 u233 u234 u235 u236 u237 u238 u239 u240 u241 u242 u243 u244 u245 u246 u247 u248 u249 u250 u251 u252 u253 u254 u255 u256 u257 u258 u259 u260 u261 u262 u263 u264 u265 u266 u267 u268 u269 u270 u271 u272 u273 u274 u275 u276 u277 u278 u279 u280 u281 u282 u283 : Value} (h b : Nat) (st : Sh.St) (wc : World) (Q : Exit → Act → World → Prop) (hne : h ≠ b) (hrow : Row wc h 65 (wvs st.list)) (hbrow : Row wc b 24 (bvs (List.replicate 32 0)))
    (hexit : ∀  w', (Row w' b 24 (bvs (Sh.outs st)) ∧ Keeps (fun q => q = b) wc w') → ∀ t23 t241 t242 t243 t244 t245 t246 t247 t248 t249 t250 t251 t252 t253 t254 t255 t256 t257 t258 t259 t260 t261 t262 t263 t264 t265 t266 t267 t268 t269 t270 t271 t272 t273 t274 t275 t276 t277 t278 t279 t280 t281 t282 : Value, Q (.exit 16) (Act.mk (List.toArray (u0 :: u1 :: u2 :: u3 :: u4 :: u5 :: u6 :: u7 :: .slice (some ⟨h, 0, none⟩) 8 8 :: u9 :: u10 :: u11 :: u12 :: u13 :: u14 :: u15 :: u16 :: u17 :: u18 :: u19 :: u20 :: u21 :: .pointer (some ⟨b, 0, none⟩) :: t23 :: u24 :: u25 :: u26 :: u27 :: u28 :: u29 :: u30 :: u31 :: u32 :: u33 :: u34 :: u35 :: u36 :: u37 :: u38 :: u39 :: u40 :: u41 :: u42 :: u43 :: u44 :: u45 :: u46 :: u47 :: u48 :: u49 :: u50 :: u51 :: u52 :: u53 :: u54 :: u55 :: u56 :: u57 :: u58 :: u59 :: u60 :: u61 :: u62 :: u63 :: u64 :: u65 :: u66 :: u67 :: u68 :: u69 :: u70 :: u71 :: u72 :: u73 :: u74 :: u75 :: u76 :: u77 :: u78 :: u79 :: u80 :: u81 :: u82 :: u83 :: u84 :: u85 :: u86 :: u87 :: u88 :: u89 :: u90 :: u91 :: u92 :: u93 :: u94 :: u95 :: u96 :: u97 :: u98 :: u99 :: u100 :: u101 :: u102 :: u103 :: u104 :: u105 :: u106 :: u107 :: u108 :: u109 :: u110 :: u111 :: u112 :: u113 :: u114 :: u115 :: u116 :: u117 :: u118 :: u119 :: u120 :: u121 :: u122 :: u123 :: u124 :: u125 :: u126 :: u127 :: u128 :: u129 :: u130 :: u131 :: u132 :: u133 :: u134 :: u135 :: u136 :: u137 :: u138 :: u139 :: u140 :: u141 :: u142 :: u143 :: u144 :: u145 :: u146 :: u147 :: u148 :: u149 :: u150 :: u151 :: u152 :: u153 :: u154 :: u155 :: u156 :: u157 :: u158 :: u159 :: u160 :: u161 :: u162 :: u163 :: u164 :: u165 :: u166 :: u167 :: u168 :: u169 :: u170 :: u171 :: u172 :: u173 :: u174 :: u175 :: u176 :: u177 :: u178 :: u179 :: u180 :: u181 :: u182 :: u183 :: u184 :: u185 :: u186 :: u187 :: u188 :: u189 :: u190 :: u191 :: u192 :: u193 :: u194 :: u195 :: u196 :: u197 :: u198 :: u199 :: u200 :: u201 :: u202 :: u203 :: u204 :: u205 :: u206 :: u207 :: u208 :: u209 :: u210 :: u211 :: u212 :: u213 :: u214 :: u215 :: u216 :: u217 :: u218 :: u219 :: u220 :: u221 :: u222 :: u223 :: u224 :: u225 :: u226 :: u227 :: u228 :: u229 :: u230 :: u231 :: u232 :: u233 :: u234 :: u235 :: u236 :: u237 :: u238 :: u239 :: u240 :: t241 :: t242 :: t243 :: t244 :: t245 :: t246 :: t247 :: t248 :: t249 :: t250 :: t251 :: t252 :: t253 :: t254 :: t255 :: t256 :: t257 :: t258 :: t259 :: t260 :: t261 :: t262 :: t263 :: t264 :: t265 :: t266 :: t267 :: t268 :: t269 :: t270 :: t271 :: t272 :: t273 :: t274 :: t275 :: t276 :: t277 :: t278 :: t279 :: t280 :: t281 :: t282 :: u283 :: [])) []) w') : Code.wp Tryd.prog loop9c Q (Act.mk (List.toArray (u0 :: u1 :: u2 :: u3 :: u4 :: u5 :: u6 :: u7 :: .slice (some ⟨h, 0, none⟩) 8 8 :: u9 :: u10 :: u11 :: u12 :: u13 :: u14 :: u15 :: u16 :: u17 :: u18 :: u19 :: u20 :: u21 :: .pointer (some ⟨b, 0, none⟩) :: .int .i64 0 :: u24 :: u25 :: u26 :: u27 :: u28 :: u29 :: u30 :: u31 :: u32 :: u33 :: u34 :: u35 :: u36 :: u37 :: u38 :: u39 :: u40 :: u41 :: u42 :: u43 :: u44 :: u45 :: u46 :: u47 :: u48 :: u49 :: u50 :: u51 :: u52 :: u53 :: u54 :: u55 :: u56 :: u57 :: u58 :: u59 :: u60 :: u61 :: u62 :: u63 :: u64 :: u65 :: u66 :: u67 :: u68 :: u69 :: u70 :: u71 :: u72 :: u73 :: u74 :: u75 :: u76 :: u77 :: u78 :: u79 :: u80 :: u81 :: u82 :: u83 :: u84 :: u85 :: u86 :: u87 :: u88 :: u89 :: u90 :: u91 :: u92 :: u93 :: u94 :: u95 :: u96 :: u97 :: u98 :: u99 :: u100 :: u101 :: u102 :: u103 :: u104 :: u105 :: u106 :: u107 :: u108 :: u109 :: u110 :: u111 :: u112 :: u113 :: u114 :: u115 :: u116 :: u117 :: u118 :: u119 :: u120 :: u121 :: u122 :: u123 :: u124 :: u125 :: u126 :: u127 :: u128 :: u129 :: u130 :: u131 :: u132 :: u133 :: u134 :: u135 :: u136 :: u137 :: u138 :: u139 :: u140 :: u141 :: u142 :: u143 :: u144 :: u145 :: u146 :: u147 :: u148 :: u149 :: u150 :: u151 :: u152 :: u153 :: u154 :: u155 :: u156 :: u157 :: u158 :: u159 :: u160 :: u161 :: u162 :: u163 :: u164 :: u165 :: u166 :: u167 :: u168 :: u169 :: u170 :: u171 :: u172 :: u173 :: u174 :: u175 :: u176 :: u177 :: u178 :: u179 :: u180 :: u181 :: u182 :: u183 :: u184 :: u185 :: u186 :: u187 :: u188 :: u189 :: u190 :: u191 :: u192 :: u193 :: u194 :: u195 :: u196 :: u197 :: u198 :: u199 :: u200 :: u201 :: u202 :: u203 :: u204 :: u205 :: u206 :: u207 :: u208 :: u209 :: u210 :: u211 :: u212 :: u213 :: u214 :: u215 :: u216 :: u217 :: u218 :: u219 :: u220 :: u221 :: u222 :: u223 :: u224 :: u225 :: u226 :: u227 :: u228 :: u229 :: u230 :: u231 :: u232 :: u233 :: u234 :: u235 :: u236 :: u237 :: u238 :: u239 :: u240 :: u241 :: u242 :: u243 :: u244 :: u245 :: u246 :: u247 :: u248 :: u249 :: u250 :: u251 :: u252 :: u253 :: u254 :: u255 :: u256 :: u257 :: u258 :: u259 :: u260 :: u261 :: u262 :: u263 :: u264 :: u265 :: u266 :: u267 :: u268 :: u269 :: u270 :: u271 :: u272 :: u273 :: u274 :: u275 :: u276 :: u277 :: u278 :: u279 :: u280 :: u281 :: u282 :: u283 :: [])) []) wc := by
  conv => arg 2; whnf
  have HR := Lib.hid hrow
  have HB := Lib.hid hbrow
  clear hrow hbrow
  go_loopw [23] (fun iv wx => ∃ j : Nat, j ≤ 8 ∧ iv = .int .i64 j ∧ Hid (Row wx b 24 (bvs (front (Sh.outs st) 32 (4 * j)))) ∧ Keeps (fun q => q = b) wc wx) (fun iv _ => 8 - (intOf iv).toNat)
  case atStart => exact ⟨0, by omega, rfl, Lib.hid (by rw [Nat.mul_zero, front_zero]; exact HB.out), Keeps.refl _ _⟩
  case round =>
    clear HB
    obtain ⟨j, hj, rfl, HO, hkp⟩ := hrel
    by_cases hlt : j < 8
    · obtain ⟨x, hx⟩ := isAt_list st j hlt
      obtain ⟨J, hJ⟩ : ∃ J, 4 * j = J := ⟨_, rfl⟩
      have h4 : (4 : Int) * (j : Int) = (J : Int) := by omega
      rw [hJ] at HO
      have hx' : ∀ V, Keeps (fun q => q = b) wc V → V.cell? ⟨h, j, none⟩ = some (.int .u32 (wi x)) := fun V hV => by
        have r1 : Row V h 65 (wvs st.list) := HR.out.keeps hV hne
        rw [r1.cell, wvs_get, hx.out]
        rfl
      have b0 := wi_nonneg x
      have b1 := wi_lt x
      have out : ∀ k (hk : k < 4), ∃ c : UInt8, (Sh.outs st)[J + k]? = some c ∧ wi x / 2 ^ (8 * (3 - k)) % 256 = (c.toNat : Int) := fun k hk => ⟨_, by rw [← hJ]; exact outs_at st j k x hx.out hk, wi_out x (8 * (3 - k)) (by omega)⟩
      obtain ⟨ca, oa, va⟩ := out 0 (by omega)
      obtain ⟨cb, ob, vb⟩ := out 1 (by omega)
      obtain ⟨cc, oc, vcc⟩ := out 2 (by omega)
      obtain ⟨cd, od, vd⟩ := out 3 (by omega)
      rw [show (2 : Int) ^ (8 * (3 - 0)) = 16777216 from rfl] at va
      rw [show (2 : Int) ^ (8 * (3 - 1)) = 65536 from rfl] at vb
      rw [show (2 : Int) ^ (8 * (3 - 2)) = 256 from rfl] at vcc
      rw [show (2 : Int) ^ (8 * (3 - 3)) = 1 from rfl, Int.ediv_one] at vd
      obtain ⟨qa, hqa⟩ : ∃ q : Int, wi x / 16777216 = q := ⟨_, rfl⟩
      obtain ⟨qb, hqb⟩ : ∃ q : Int, wi x / 65536 = q := ⟨_, rfl⟩
      obtain ⟨qc, hqc⟩ : ∃ q : Int, wi x / 256 = q := ⟨_, rfl⟩
      have ra0 : 0 ≤ qa ∧ qa ≤ 4294967295 := by omega
      have rb0 : 0 ≤ qb ∧ qb ≤ 4294967295 := by omega
      have rc0 : 0 ≤ qc ∧ qc ≤ 4294967295 := by omega
      obtain ⟨ra1, ra2⟩ := ra0
      obtain ⟨rb1, rb2⟩ := rb0
      obtain ⟨rc1, rc2⟩ := rc0
      have ta : (wi x).tdiv 16777216 = qa := by rw [Int.tdiv_eq_ediv_of_nonneg b0, hqa]
      have tb : (wi x).tdiv 65536 = qb := by rw [Int.tdiv_eq_ediv_of_nonneg b0, hqb]
      have tc : (wi x).tdiv 256 = qc := by rw [Int.tdiv_eq_ediv_of_nonneg b0, hqc]
      rw [hqa] at va
      rw [hqb] at vb
      rw [hqc] at vcc
      have ua : IntKind.u8.wrap qa = (ca.toNat : Int) := by rw [← va]; exact IntKind.wrap_u8' _
      have ub : IntKind.u8.wrap qb = (cb.toNat : Int) := by rw [← vb]; exact IntKind.wrap_u8' _
      have uc : IntKind.u8.wrap qc = (cc.toNat : Int) := by rw [← vcc]; exact IntKind.wrap_u8' _
      have ud : IntKind.u8.wrap (wi x) = (cd.toNat : Int) := by rw [← vd]; exact IntKind.wrap_u8' _
      have f0 := front_set (Sh.outs st) 32 J ca (Sh.outs_length st) (by omega) (by simpa using oa)
      have f1 := front_set (Sh.outs st) 32 (J + 1) cb (Sh.outs_length st) (by omega) ob
      have f2 := front_set (Sh.outs st) 32 (J + 2) cc (Sh.outs_length st) (by omega) oc
      have f3 := front_set (Sh.outs st) 32 (J + 3) cd (Sh.outs_length st) (by omega) od
      obtain ⟨W1, hW1⟩ : ∃ V, wr.setCell ⟨b, J, none⟩ (.int .u8 (ca.toNat : Int)) = V := ⟨_, rfl⟩
      obtain ⟨W2, hW2⟩ : ∃ V, W1.setCell ⟨b, J + 1, none⟩ (.int .u8 (cb.toNat : Int)) = V := ⟨_, rfl⟩
      obtain ⟨W3, hW3⟩ : ∃ V, W2.setCell ⟨b, J + 2, none⟩ (.int .u8 (cc.toNat : Int)) = V := ⟨_, rfl⟩
      obtain ⟨W4, hW4⟩ : ∃ V, W3.setCell ⟨b, J + 3, none⟩ (.int .u8 (cd.toNat : Int)) = V := ⟨_, rfl⟩
      have R1 : Row W1 b 24 (bvs (front (Sh.outs st) 32 (J + 1))) := by rw [← hW1, ← f0]; exact HO.out.set J _
      have R2 : Row W2 b 24 (bvs (front (Sh.outs st) 32 (J + 2))) := by rw [← hW2, ← f1]; exact R1.set (J + 1) _
      have R3 : Row W3 b 24 (bvs (front (Sh.outs st) 32 (J + 3))) := by rw [← hW3, ← f2]; exact R2.set (J + 2) _
      have R4 : Row W4 b 24 (bvs (front (Sh.outs st) 32 (J + 4))) := by rw [← hW4, ← f3]; exact R3.set (J + 3) _
      have k1 : Keeps (fun q => q = b) wc W1 := by rw [← hW1]; exact Keeps.setCell (p := ⟨b, J, none⟩) hkp (fun _ => rfl) _
      have k2 : Keeps (fun q => q = b) wc W2 := by rw [← hW2]; exact Keeps.setCell (p := ⟨b, J + 1, none⟩) k1 (fun _ => rfl) _
      have k3 : Keeps (fun q => q = b) wc W3 := by rw [← hW3]; exact Keeps.setCell (p := ⟨b, J + 2, none⟩) k2 (fun _ => rfl) _
      have k4 : Keeps (fun q => q = b) wc W4 := by rw [← hW4]; exact Keeps.setCell (p := ⟨b, J + 3, none⟩) k3 (fun _ => rfl) _
      obtain ⟨z0, d0⟩ := front_cell HO.out (Sh.outs_length st) (show J < 32 by omega)
      obtain ⟨z1, d1⟩ := front_cell R1 (Sh.outs_length st) (show J + 1 < 32 by omega)
      obtain ⟨z2, d2⟩ := front_cell R2 (Sh.outs_length st) (show J + 2 < 32 by omega)
      obtain ⟨z3, d3⟩ := front_cell R3 (Sh.outs_length st) (show J + 3 < 32 by omega)
      have y0 := HO.out.frozen J
      have y1 := R1.frozen (J + 1)
      have y2 := R2.frozen (J + 2)
      have y3 := R3.frozen (J + 3)
      have x0 := hx' wr hkp
      have x1 := hx' W1 k1
      have x2 := hx' W2 k2
      have x3 := hx' W3 k3
      have HR4 := Lib.hid R4
      have HK4 := Lib.hid k4
      have j8 : (j : Int) < 8 := by omega
      have J28 : (J : Int) ≤ 28 := by omega
      have HJ := Lib.hid hJ
      clear R1 R2 R3 R4 k1 k2 k3 k4 f0 f1 f2 f3 oa ob oc od out hx' HO hkp hJ hx
      go_wp2_with fail
      clear hW1 hW2 hW3 hW4
      go_roundw
      case rel => exact ⟨j + 1, by omega, by go_num, Lib.hid (by rw [show 4 * (j + 1) = J + 4 by have := HJ.out; omega]; exact HR4.out), HK4.out⟩
      case measure => simp [intOf]; omega
    · have ej : 4 * j = 32 := by omega
      rw [ej, front_all _ _ (Sh.outs_length st)] at HO
      have hfin := hexit wr ⟨HO.out, hkp⟩
      clear hexit
      go_wp2_with fail
      exact hfin _ _ _ _ _ _ _ _ _ _ _ _ _ _ _ _ _ _ _ _ _ _ _ _ _ _ _ _ _ _ _ _ _ _ _ _ _ _ _ _ _ _ _

end Go.Proofs.YtfokemminjikpaaDoor
