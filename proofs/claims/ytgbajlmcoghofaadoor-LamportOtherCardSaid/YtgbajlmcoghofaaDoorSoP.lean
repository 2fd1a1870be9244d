/-
  The document's own hash (assayerref02.Of): a block's first numbers, and the bytes at the end. WRITTEN BY wip/gen/soreg.py.
  The document's own hash (assayerref02.Of): the loop over the blocks. WRITTEN BY wip/gen/soreg.py.
  The document's own hash (assayerref02.Of), whole. WRITTEN BY wip/gen/mksol.py.
  The document's own hash of a leaf (assayerref02.Leaf).
  The document's own hash of two hashes (assayerref02.Node).
-/
import Derived.Test.YtgbajlmcoghofaaDoorSoI
import Derived.Test.YtgbajlmcoghofaaDoorShaF
import Derived.Test.YtgbajlmcoghofaaDoorSoM
import Derived.Test.YtgbajlmcoghofaaDoorWalkR
namespace Go.Proofs.YtgbajlmcoghofaaDoor
open Go.RowKit Go.BigFrame
set_option linter.unusedVariables false

noncomputable def loop5c : Code := ((Tryd.f21.body.bind (findLoop 21)).getD .skip)
set_option maxRecDepth 1000000 in
set_option maxHeartbeats 8000000 in
theorem loop5 {u1 u2 u3 u4 u5 u6 u7 u8 u12 u13 u14 u15 u16 u17 u18 u19 u20 u21 u22 u23 u24 u25 u26 u27 u28 u29 u30 u31 u32 u33 u34 u35 u36 u37 u38 u39 u40 u41 u42 u43 u44 u45 u46 u47 u48 u49 u50 u51 u52 u53 u54 u55 u56 u57 u58 u59 u60 u61 u62 u63 u64 u65 u66 u67 u68 u69 u70 u71 u72 u73 u74 u75 u76 u77 u78 u79 u80 u81 u82 u83 u84 u85 u86 u87 u88 u89 u90 u91 u92 u93 u94 u95 u96 u97 u98 u99 u100 u101 u102 u103 u104 u105 u106 u107 u108 u109 u110 u111 u112 u113 u114 u115 u116 u117 u118 u119 u120 u121 u122 u123 u124 u125 u126 u127 u128 u129 u130 u131 u132 u133 u134 u135 u136 u137 u138 u139 u140 u141 u142 u143 u144 u145 u146 u147 u148 u149 u150 u151 u152 u153 u154 u155 u156 u157 u158 u159 u160 u161 u162 u163 u164 u165 u166 u167 u168 u169 u170 u171 u172 u173 u174 u175 u176 u177 u178 u179 u180 u181 u182 u183 u184 u185 u186 u187 u188 u189 u190 u191 u192 u193 u194 u195 u196 u197 u198 u199 u200 u201 u202 u203 u204 u205 u206 u207 u208 u209 u210 u211 u212 u213 u214 u215 u216 u217 u218 u219 u220 u221 u222 u223 u224 u225 u226 u227 u228 u229 u230 u231 u232 u233 u234 u235 u236 u237 u238 u239 u240 u241 u242 u243 u244 u245 u246 u247 u248 u249 u250 u251 u252 u253 u254 u255 u256 u257 u258 u259 u260 u261 u262 u263 u264 u265 u266 u267 u268 u269 u270 u271 u272 u273 u274 u275 u276 u277 u278 u279 u280 u281 u282 u283 : Value} (P blk : List UInt8) (t q : Nat) (wc : World) (Q : Exit → Act → World → Prop) (hq : q = 64 * t) (hq2 : q + 64 ≤ P.length) (hq3 : P.length ≤ 5200) (hblk : (P.drop (64 * t)).take 64 = blk)
    (hexit : ∀ g6 c6 w', (w'.ownsRow wc.heap.size 42 1 (.slice (some ⟨g6, 0, none⟩) 16 c6) 16 (wvs (Sh.firstN 16 blk)) ∧ Keeps (fun k => wc.heap.size ≤ k) wc w') → ∀ t11 t63 t64 t65 t66 t67 t68 t69 t70 t71 t72 t73 t74 t75 t76 t77 t78 t79 t80 t81 : Value, Q (.exit 8) (Act.mk (List.toArray (.string (strOf P) :: u1 :: u2 :: u3 :: u4 :: u5 :: u6 :: u7 :: u8 :: .int .i64 (q : Int) :: .slice (some ⟨g6, 0, none⟩) 16 c6 :: t11 :: u12 :: u13 :: u14 :: u15 :: u16 :: u17 :: u18 :: u19 :: u20 :: u21 :: u22 :: u23 :: u24 :: u25 :: u26 :: u27 :: u28 :: u29 :: u30 :: u31 :: u32 :: u33 :: u34 :: u35 :: u36 :: u37 :: u38 :: u39 :: u40 :: u41 :: u42 :: u43 :: u44 :: u45 :: u46 :: u47 :: u48 :: u49 :: u50 :: u51 :: u52 :: u53 :: u54 :: u55 :: u56 :: u57 :: u58 :: u59 :: u60 :: u61 :: u62 :: t63 :: t64 :: t65 :: t66 :: t67 :: t68 :: t69 :: t70 :: t71 :: t72 :: t73 :: t74 :: t75 :: t76 :: t77 :: t78 :: t79 :: t80 :: t81 :: u82 :: u83 :: u84 :: u85 :: u86 :: u87 :: u88 :: u89 :: u90 :: u91 :: u92 :: u93 :: u94 :: u95 :: u96 :: u97 :: u98 :: u99 :: u100 :: u101 :: u102 :: u103 :: u104 :: u105 :: u106 :: u107 :: u108 :: u109 :: u110 :: u111 :: u112 :: u113 :: u114 :: u115 :: u116 :: u117 :: u118 :: u119 :: u120 :: u121 :: u122 :: u123 :: u124 :: u125 :: u126 :: u127 :: u128 :: u129 :: u130 :: u131 :: u132 :: u133 :: u134 :: u135 :: u136 :: u137 :: u138 :: u139 :: u140 :: u141 :: u142 :: u143 :: u144 :: u145 :: u146 :: u147 :: u148 :: u149 :: u150 :: u151 :: u152 :: u153 :: u154 :: u155 :: u156 :: u157 :: u158 :: u159 :: u160 :: u161 :: u162 :: u163 :: u164 :: u165 :: u166 :: u167 :: u168 :: u169 :: u170 :: u171 :: u172 :: u173 :: u174 :: u175 :: u176 :: u177 :: u178 :: u179 :: u180 :: u181 :: u182 :: u183 :: u184 :: u185 :: u186 :: u187 :: u188 :: u189 :: u190 :: u191 :: u192 :: u193 :: u194 :: u195 :: u196 :: u197 :: u198 :: u199 :: u200 :: u201 :: u202 :: u203 :: u204 :: u205 :: u206 :: u207 :: u208 :: u209 :: u210 :: u211 :: u212 :: u213 :: u214 :: u215 :: u216 :: u217 :: u218 :: u219 :: u220 :: u221 :: u222 :: u223 :: u224 :: u225 :: u226 :: u227 :: u228 :: u229 :: u230 :: u231 :: u232 :: u233 :: u234 :: u235 :: u236 :: u237 :: u238 :: u239 :: u240 :: u241 :: u242 :: u243 :: u244 :: u245 :: u246 :: u247 :: u248 :: u249 :: u250 :: u251 :: u252 :: u253 :: u254 :: u255 :: u256 :: u257 :: u258 :: u259 :: u260 :: u261 :: u262 :: u263 :: u264 :: u265 :: u266 :: u267 :: u268 :: u269 :: u270 :: u271 :: u272 :: u273 :: u274 :: u275 :: u276 :: u277 :: u278 :: u279 :: u280 :: u281 :: u282 :: u283 :: [])) []) w') : Code.wp Tryd.prog loop5c Q (Act.mk (List.toArray (.string (strOf P) :: u1 :: u2 :: u3 :: u4 :: u5 :: u6 :: u7 :: u8 :: .int .i64 (q : Int) :: .slice none 0 0 :: .int .i64 0 :: u12 :: u13 :: u14 :: u15 :: u16 :: u17 :: u18 :: u19 :: u20 :: u21 :: u22 :: u23 :: u24 :: u25 :: u26 :: u27 :: u28 :: u29 :: u30 :: u31 :: u32 :: u33 :: u34 :: u35 :: u36 :: u37 :: u38 :: u39 :: u40 :: u41 :: u42 :: u43 :: u44 :: u45 :: u46 :: u47 :: u48 :: u49 :: u50 :: u51 :: u52 :: u53 :: u54 :: u55 :: u56 :: u57 :: u58 :: u59 :: u60 :: u61 :: u62 :: u63 :: u64 :: u65 :: u66 :: u67 :: u68 :: u69 :: u70 :: u71 :: u72 :: u73 :: u74 :: u75 :: u76 :: u77 :: u78 :: u79 :: u80 :: u81 :: u82 :: u83 :: u84 :: u85 :: u86 :: u87 :: u88 :: u89 :: u90 :: u91 :: u92 :: u93 :: u94 :: u95 :: u96 :: u97 :: u98 :: u99 :: u100 :: u101 :: u102 :: u103 :: u104 :: u105 :: u106 :: u107 :: u108 :: u109 :: u110 :: u111 :: u112 :: u113 :: u114 :: u115 :: u116 :: u117 :: u118 :: u119 :: u120 :: u121 :: u122 :: u123 :: u124 :: u125 :: u126 :: u127 :: u128 :: u129 :: u130 :: u131 :: u132 :: u133 :: u134 :: u135 :: u136 :: u137 :: u138 :: u139 :: u140 :: u141 :: u142 :: u143 :: u144 :: u145 :: u146 :: u147 :: u148 :: u149 :: u150 :: u151 :: u152 :: u153 :: u154 :: u155 :: u156 :: u157 :: u158 :: u159 :: u160 :: u161 :: u162 :: u163 :: u164 :: u165 :: u166 :: u167 :: u168 :: u169 :: u170 :: u171 :: u172 :: u173 :: u174 :: u175 :: u176 :: u177 :: u178 :: u179 :: u180 :: u181 :: u182 :: u183 :: u184 :: u185 :: u186 :: u187 :: u188 :: u189 :: u190 :: u191 :: u192 :: u193 :: u194 :: u195 :: u196 :: u197 :: u198 :: u199 :: u200 :: u201 :: u202 :: u203 :: u204 :: u205 :: u206 :: u207 :: u208 :: u209 :: u210 :: u211 :: u212 :: u213 :: u214 :: u215 :: u216 :: u217 :: u218 :: u219 :: u220 :: u221 :: u222 :: u223 :: u224 :: u225 :: u226 :: u227 :: u228 :: u229 :: u230 :: u231 :: u232 :: u233 :: u234 :: u235 :: u236 :: u237 :: u238 :: u239 :: u240 :: u241 :: u242 :: u243 :: u244 :: u245 :: u246 :: u247 :: u248 :: u249 :: u250 :: u251 :: u252 :: u253 :: u254 :: u255 :: u256 :: u257 :: u258 :: u259 :: u260 :: u261 :: u262 :: u263 :: u264 :: u265 :: u266 :: u267 :: u268 :: u269 :: u270 :: u271 :: u272 :: u273 :: u274 :: u275 :: u276 :: u277 :: u278 :: u279 :: u280 :: u281 :: u282 :: u283 :: [])) []) wc := by
  conv => arg 2; whnf
  have hPs : (strOf P).size = P.length := rfl
  obtain ⟨PL, hPL⟩ : ∃ PL, P.length = PL := ⟨_, rfl⟩
  rw [hPL] at hPs hq2 hq3
  have HPL := Lib.hid hPL
  have HQ := Lib.hid hq
  have HBLK := Lib.hid hblk
  obtain ⟨v0, hv0, hz0, hw0, hx0⟩ := info_parts info_u32
  clear hPL hq hblk
  go_loopw [10, 11] (fun v iv wx => ∃ (i : Nat) (A0 : Option Addr) (c0 : Nat), i ≤ 16 ∧ iv = .int .i64 i ∧ v = .slice A0 i c0 ∧ Hid (wx.ownsRow wc.heap.size 42 1 (.slice A0 i c0) i (wvs (Sh.firstN i blk))) ∧ Keeps (fun k => wc.heap.size ≤ k) wc wx) (fun _ iv _ => 16 - (intOf iv).toNat)
  case atStart => exact ⟨0, none, 0, by omega, rfl, rfl, Lib.hid (World.ownsRow_nil _ _ _ _), Keeps.refl _ _⟩
  case round =>
    obtain ⟨i, A0, c0, hi, rfl, rfl, HO, kx⟩ := hrel
    by_cases hlt2 : i < 16
    · obtain ⟨a, b, c, d, hcut, hwd⟩ := cut_four P t i hlt2 (by rw [HPL.out, ← HQ.out]; exact hq2)
      rw [HBLK.out] at hwd
      rw [← HQ.out] at hcut
      have l1 : (q : Int) + 4 * i + 4 ≤ (PL : Int) := by omega
      have n1 : ((q : Int) + 4 * i).toNat = q + 4 * i := by omega
      have n2 : ((q : Int) + 4 * i + 4).toNat = q + 4 * i + 4 := by omega
      have hq4 : (q : Int) ≤ 5200 := by omega
      have hnext : wvs (Sh.firstN i blk) ++ [.int .u32 (wi (Sh.wd [a, b, c, d]))] = wvs (Sh.firstN (i + 1) blk) := by
        rw [firstN_snoc, hwd]
        unfold wvs
        rw [List.map_append]
        rfl
      have HNX := Lib.hid hnext
      have sx := kx.size
      clear hwd hnext
      go_wp2_with fail
      refine (number_any a b c d _).mono ?_
      rintro e w9 ⟨rfl, q9, rfl⟩
      have hk9 : Keeps (fun k => wc.heap.size ≤ k) wc ((wr.drewN q9).alloc (.cells #[.int .u32 (wi (Sh.wd [a, b, c, d]))] 42)) := (kx.drewN q9).alloc _
      have ho9 : ((wr.drewN q9).alloc (.cells #[.int .u32 (wi (Sh.wd [a, b, c, d]))] 42)).ownsRow wc.heap.size 42 1 (.slice A0 i c0) i (wvs (Sh.firstN i blk)) := Keeps.owns (S := fun _ => False) (((Keeps.refl _ _).drewN q9).alloc _) HO.out (fun _ _ => id)
      have HK9 := Lib.hid hk9
      have HO9 := Lib.hid ho9
      obtain ⟨M, hM⟩ : ∃ M, wi (Sh.wd [a, b, c, d]) = M := ⟨_, rfl⟩
      rw [hM] at HK9 HO9 HNX
      have hnews : ∀ j u, [Value.int .u32 M][j]? = some u → ((wr.drewN q9).alloc (.cells #[.int .u32 M] 42)).cell? ((⟨wr.heap.size, 0, none⟩ : Addr).add j) = some u := World.news_of_block (heap_alloc_new (wr.drewN q9) _)
      have HNW := Lib.hid hnews
      clear hk9 ho9 hnews hcut
      go_wp2_with (refine wpList_append_own _ (by rfl) (.tmp 67) (.tmp 80) 67 (by rfl) wc.heap.size 42 v0 (.int .u32 0) 1 4 Tryd.underlying67 hv0 hz0 hw0 hx0 (by rfl) (by decide) (.slice A0 i c0) i (wvs (Sh.firstN i blk)) (by rfl) HO9.out ⟨wr.heap.size, 0, none⟩ 1 1 [.int .u32 M] (by rfl) (by rfl) HNW.out (by intro u hu; rw [List.mem_singleton] at hu; subst hu; rfl) (by unfold maxLen; omega) (by omega) (by simp; omega) ?_; intro v' w' ho' hg' _)
      obtain ⟨A1, c1, rfl⟩ := own_slice ho'
      rw [HNX.out] at ho'
      have hkw : Keeps (fun k => wc.heap.size ≤ k) wc w' := HK9.out.grown hg' (fun k hk hh => (own_block HO9.out k hh).elim fun _ h => h.2)
      go_roundw
      case rel => exact ⟨i + 1, A1, c1, by omega, by go_num, rfl, Lib.hid ho', hkw⟩
      case measure => simp [intOf]; omega
    · obtain rfl : i = 16 := by omega
      obtain ⟨g6, c6, hg6⟩ := own_some HO.out (by omega)
      injection hg6 with e1 e2 e3
      subst e1 e3
      have hfin := hexit g6 c0 wr ⟨HO.out, kx⟩
      clear hexit
      go_wp2_with fail
      exact hfin _ _ _ _ _ _ _ _ _ _ _ _ _ _ _ _ _ _ _ _

noncomputable def loop9c : Code := ((Tryd.f21.body.bind (findLoop 46)).getD .skip)
set_option maxRecDepth 1000000 in
set_option maxHeartbeats 8000000 in
theorem loop9 {u0 u1 u2 u3 u4 u5 u6 u7 u9 u10 u11 u12 u13 u14 u15 u16 u17 u18 u19 u20 u21 u24 u25 u26 u27 u28 u29 u30 u31 u32 u33 u34 u35 u36 u37 u38 u39 u40 u41 u42 u43 u44 u45 u46 u47 u48 u49 u50 u51 u52 u53 u54 u55 u56 u57 u58 u59 u60 u61 u62 u63 u64 u65 u66 u67 u68 u69 u70 u71 u72 u73 u74 u75 u76 u77 u78 u79 u80 u81 u82 u83 u84 u85 u86 u87 u88 u89 u90 u91 u92 u93 u94 u95 u96 u97 u98 u99 u100 u101 u102 u103 u104 u105 u106 u107 u108 u109 u110 u111 u112 u113 u114 u115 u116 u117 u118 u119 u120 u121 u122 u123 u124 u125 u126 u127 u128 u129 u130 u131 u132 u133 u134 u135 u136 u137 u138 u139 u140 u141 u142 u143 u144 u145 u146 u147 u148 u149 u150 u151 u152 u153 u154 u155 u156 u157 u158 u159 u160 u161 u162 u163 u164 u165 u166 u167 u168 u169 u170 u171 u172 u173 u174 u175 u176 u177 u178 u179 u180 u181 u182 u183 u184 u185 u186 u187 u188 u189 u190 u191 u192 u193 u194 u195 u196 u197 u198 u199 u200 u201 u202 u203 u204 u205 u206 u207 u208 u209 u210 u211 u212 u213 u214 u215 u216 u217 u218 u219 u220 u221 u222 u223 u224 u225 u226 u227 u228 u229 u230 u231 u232 u233 u234 u235 u236 u237 u238 u239 u240 u241 u242 u243 u244 u245 u246 u247 u248 u249 u250 u251 u252 u253 u254 u255 u256 u257 u258 u259 u260 u261 u262 u263 u264 u265 u266 u267 u268 u269 u270 u271 u272 u273 u274 u275 u276 u277 u278 u279 u280 u281 u282 u283 : Value} (h b : Nat) (st : Sh.St) (wc : World) (Q : Exit → Act → World → Prop) (hne : h ≠ b) (hrow : Row wc h 42 (wvs st.list)) (hbrow : Row wc b 23 (bvs (List.replicate 32 0)))
    (hexit : ∀  w', (Row w' b 23 (bvs (Sh.outs st)) ∧ Keeps (fun q => q = b) wc w') → ∀ t23 t241 t242 t243 t244 t245 t246 t247 t248 t249 t250 t251 t252 t253 t254 t255 t256 t257 t258 t259 t260 t261 t262 t263 t264 t265 t266 t267 t268 t269 t270 t271 t272 t273 t274 t275 t276 t277 t278 t279 t280 t281 t282 : Value, Q (.exit 16) (Act.mk (List.toArray (u0 :: u1 :: u2 :: u3 :: u4 :: u5 :: u6 :: u7 :: .slice (some ⟨h, 0, none⟩) 8 8 :: u9 :: u10 :: u11 :: u12 :: u13 :: u14 :: u15 :: u16 :: u17 :: u18 :: u19 :: u20 :: u21 :: .pointer (some ⟨b, 0, none⟩) :: t23 :: u24 :: u25 :: u26 :: u27 :: u28 :: u29 :: u30 :: u31 :: u32 :: u33 :: u34 :: u35 :: u36 :: u37 :: u38 :: u39 :: u40 :: u41 :: u42 :: u43 :: u44 :: u45 :: u46 :: u47 :: u48 :: u49 :: u50 :: u51 :: u52 :: u53 :: u54 :: u55 :: u56 :: u57 :: u58 :: u59 :: u60 :: u61 :: u62 :: u63 :: u64 :: u65 :: u66 :: u67 :: u68 :: u69 :: u70 :: u71 :: u72 :: u73 :: u74 :: u75 :: u76 :: u77 :: u78 :: u79 :: u80 :: u81 :: u82 :: u83 :: u84 :: u85 :: u86 :: u87 :: u88 :: u89 :: u90 :: u91 :: u92 :: u93 :: u94 :: u95 :: u96 :: u97 :: u98 :: u99 :: u100 :: u101 :: u102 :: u103 :: u104 :: u105 :: u106 :: u107 :: u108 :: u109 :: u110 :: u111 :: u112 :: u113 :: u114 :: u115 :: u116 :: u117 :: u118 :: u119 :: u120 :: u121 :: u122 :: u123 :: u124 :: u125 :: u126 :: u127 :: u128 :: u129 :: u130 :: u131 :: u132 :: u133 :: u134 :: u135 :: u136 :: u137 :: u138 :: u139 :: u140 :: u141 :: u142 :: u143 :: u144 :: u145 :: u146 :: u147 :: u148 :: u149 :: u150 :: u151 :: u152 :: u153 :: u154 :: u155 :: u156 :: u157 :: u158 :: u159 :: u160 :: u161 :: u162 :: u163 :: u164 :: u165 :: u166 :: u167 :: u168 :: u169 :: u170 :: u171 :: u172 :: u173 :: u174 :: u175 :: u176 :: u177 :: u178 :: u179 :: u180 :: u181 :: u182 :: u183 :: u184 :: u185 :: u186 :: u187 :: u188 :: u189 :: u190 :: u191 :: u192 :: u193 :: u194 :: u195 :: u196 :: u197 :: u198 :: u199 :: u200 :: u201 :: u202 :: u203 :: u204 :: u205 :: u206 :: u207 :: u208 :: u209 :: u210 :: u211 :: u212 :: u213 :: u214 :: u215 :: u216 :: u217 :: u218 :: u219 :: u220 :: u221 :: u222 :: u223 :: u224 :: u225 :: u226 :: u227 :: u228 :: u229 :: u230 :: u231 :: u232 :: u233 :: u234 :: u235 :: u236 :: u237 :: u238 :: u239 :: u240 :: t241 :: t242 :: t243 :: t244 :: t245 :: t246 :: t247 :: t248 :: t249 :: t250 :: t251 :: t252 :: t253 :: t254 :: t255 :: t256 :: t257 :: t258 :: t259 :: t260 :: t261 :: t262 :: t263 :: t264 :: t265 :: t266 :: t267 :: t268 :: t269 :: t270 :: t271 :: t272 :: t273 :: t274 :: t275 :: t276 :: t277 :: t278 :: t279 :: t280 :: t281 :: t282 :: u283 :: [])) []) w') : Code.wp Tryd.prog loop9c Q (Act.mk (List.toArray (u0 :: u1 :: u2 :: u3 :: u4 :: u5 :: u6 :: u7 :: .slice (some ⟨h, 0, none⟩) 8 8 :: u9 :: u10 :: u11 :: u12 :: u13 :: u14 :: u15 :: u16 :: u17 :: u18 :: u19 :: u20 :: u21 :: .pointer (some ⟨b, 0, none⟩) :: .int .i64 0 :: u24 :: u25 :: u26 :: u27 :: u28 :: u29 :: u30 :: u31 :: u32 :: u33 :: u34 :: u35 :: u36 :: u37 :: u38 :: u39 :: u40 :: u41 :: u42 :: u43 :: u44 :: u45 :: u46 :: u47 :: u48 :: u49 :: u50 :: u51 :: u52 :: u53 :: u54 :: u55 :: u56 :: u57 :: u58 :: u59 :: u60 :: u61 :: u62 :: u63 :: u64 :: u65 :: u66 :: u67 :: u68 :: u69 :: u70 :: u71 :: u72 :: u73 :: u74 :: u75 :: u76 :: u77 :: u78 :: u79 :: u80 :: u81 :: u82 :: u83 :: u84 :: u85 :: u86 :: u87 :: u88 :: u89 :: u90 :: u91 :: u92 :: u93 :: u94 :: u95 :: u96 :: u97 :: u98 :: u99 :: u100 :: u101 :: u102 :: u103 :: u104 :: u105 :: u106 :: u107 :: u108 :: u109 :: u110 :: u111 :: u112 :: u113 :: u114 :: u115 :: u116 :: u117 :: u118 :: u119 :: u120 :: u121 :: u122 :: u123 :: u124 :: u125 :: u126 :: u127 :: u128 :: u129 :: u130 :: u131 :: u132 :: u133 :: u134 :: u135 :: u136 :: u137 :: u138 :: u139 :: u140 :: u141 :: u142 :: u143 :: u144 :: u145 :: u146 :: u147 :: u148 :: u149 :: u150 :: u151 :: u152 :: u153 :: u154 :: u155 :: u156 :: u157 :: u158 :: u159 :: u160 :: u161 :: u162 :: u163 :: u164 :: u165 :: u166 :: u167 :: u168 :: u169 :: u170 :: u171 :: u172 :: u173 :: u174 :: u175 :: u176 :: u177 :: u178 :: u179 :: u180 :: u181 :: u182 :: u183 :: u184 :: u185 :: u186 :: u187 :: u188 :: u189 :: u190 :: u191 :: u192 :: u193 :: u194 :: u195 :: u196 :: u197 :: u198 :: u199 :: u200 :: u201 :: u202 :: u203 :: u204 :: u205 :: u206 :: u207 :: u208 :: u209 :: u210 :: u211 :: u212 :: u213 :: u214 :: u215 :: u216 :: u217 :: u218 :: u219 :: u220 :: u221 :: u222 :: u223 :: u224 :: u225 :: u226 :: u227 :: u228 :: u229 :: u230 :: u231 :: u232 :: u233 :: u234 :: u235 :: u236 :: u237 :: u238 :: u239 :: u240 :: u241 :: u242 :: u243 :: u244 :: u245 :: u246 :: u247 :: u248 :: u249 :: u250 :: u251 :: u252 :: u253 :: u254 :: u255 :: u256 :: u257 :: u258 :: u259 :: u260 :: u261 :: u262 :: u263 :: u264 :: u265 :: u266 :: u267 :: u268 :: u269 :: u270 :: u271 :: u272 :: u273 :: u274 :: u275 :: u276 :: u277 :: u278 :: u279 :: u280 :: u281 :: u282 :: u283 :: [])) []) wc := by
  conv => arg 2; whnf
  have HR := Lib.hid hrow
  have HB := Lib.hid hbrow
  clear hrow hbrow
  go_loopw [23] (fun iv wx => ∃ j : Nat, j ≤ 8 ∧ iv = .int .i64 j ∧ Hid (Row wx b 23 (bvs (front (Sh.outs st) 32 (4 * j)))) ∧ Keeps (fun q => q = b) wc wx) (fun iv _ => 8 - (intOf iv).toNat)
  case atStart => exact ⟨0, by omega, rfl, Lib.hid (by rw [Nat.mul_zero, front_zero]; exact HB.out), Keeps.refl _ _⟩
  case round =>
    clear HB
    obtain ⟨j, hj, rfl, HO, hkp⟩ := hrel
    by_cases hlt : j < 8
    · obtain ⟨x, hx⟩ := isAt_list st j hlt
      obtain ⟨J, hJ⟩ : ∃ J, 4 * j = J := ⟨_, rfl⟩
      have h4 : (4 : Int) * (j : Int) = (J : Int) := by omega
      rw [hJ] at HO
      have hx' : ∀ V, Keeps (fun q => q = b) wc V → V.cell? ⟨h, j, none⟩ = some (.int .u32 (wi x)) := fun V hV => by
        have r1 : Row V h 42 (wvs st.list) := HR.out.keeps hV hne
        rw [r1.cell, wvs_get, hx.out]
        rfl
      have b0 := wi_nonneg x
      have b1 := wi_lt x
      have out : ∀ k (hk : k < 4), ∃ c : UInt8, (Sh.outs st)[J + k]? = some c ∧ wi x / 2 ^ (8 * (3 - k)) % 256 = (c.toNat : Int) := fun k hk => ⟨_, by rw [← hJ]; exact outs_at st j k x hx.out hk, wi_out x (8 * (3 - k)) (by omega)⟩
      obtain ⟨ca, oa, va⟩ := out 0 (by omega)
      obtain ⟨cb, ob, vb⟩ := out 1 (by omega)
      obtain ⟨cc, oc, vcc⟩ := out 2 (by omega)
      obtain ⟨cd, od, vd⟩ := out 3 (by omega)
      rw [show (2 : Int) ^ (8 * (3 - 0)) = 16777216 from rfl] at va
      rw [show (2 : Int) ^ (8 * (3 - 1)) = 65536 from rfl] at vb
      rw [show (2 : Int) ^ (8 * (3 - 2)) = 256 from rfl] at vcc
      rw [show (2 : Int) ^ (8 * (3 - 3)) = 1 from rfl, Int.ediv_one] at vd
      obtain ⟨qa, hqa⟩ : ∃ q : Int, wi x / 16777216 = q := ⟨_, rfl⟩
      obtain ⟨qb, hqb⟩ : ∃ q : Int, wi x / 65536 = q := ⟨_, rfl⟩
      obtain ⟨qc, hqc⟩ : ∃ q : Int, wi x / 256 = q := ⟨_, rfl⟩
      have ra0 : 0 ≤ qa ∧ qa ≤ 4294967295 := by omega
      have rb0 : 0 ≤ qb ∧ qb ≤ 4294967295 := by omega
      have rc0 : 0 ≤ qc ∧ qc ≤ 4294967295 := by omega
      obtain ⟨ra1, ra2⟩ := ra0
      obtain ⟨rb1, rb2⟩ := rb0
      obtain ⟨rc1, rc2⟩ := rc0
      have ta : (wi x).tdiv 16777216 = qa := by rw [Int.tdiv_eq_ediv_of_nonneg b0, hqa]
      have tb : (wi x).tdiv 65536 = qb := by rw [Int.tdiv_eq_ediv_of_nonneg b0, hqb]
      have tc : (wi x).tdiv 256 = qc := by rw [Int.tdiv_eq_ediv_of_nonneg b0, hqc]
      rw [hqa] at va
      rw [hqb] at vb
      rw [hqc] at vcc
      have ua : IntKind.u8.wrap qa = (ca.toNat : Int) := by rw [← va]; exact IntKind.wrap_u8' _
      have ub : IntKind.u8.wrap qb = (cb.toNat : Int) := by rw [← vb]; exact IntKind.wrap_u8' _
      have uc : IntKind.u8.wrap qc = (cc.toNat : Int) := by rw [← vcc]; exact IntKind.wrap_u8' _
      have ud : IntKind.u8.wrap (wi x) = (cd.toNat : Int) := by rw [← vd]; exact IntKind.wrap_u8' _
      have f0 := front_set (Sh.outs st) 32 J ca (Sh.outs_length st) (by omega) (by simpa using oa)
      have f1 := front_set (Sh.outs st) 32 (J + 1) cb (Sh.outs_length st) (by omega) ob
      have f2 := front_set (Sh.outs st) 32 (J + 2) cc (Sh.outs_length st) (by omega) oc
      have f3 := front_set (Sh.outs st) 32 (J + 3) cd (Sh.outs_length st) (by omega) od
      obtain ⟨W1, hW1⟩ : ∃ V, wr.setCell ⟨b, J, none⟩ (.int .u8 (ca.toNat : Int)) = V := ⟨_, rfl⟩
      obtain ⟨W2, hW2⟩ : ∃ V, W1.setCell ⟨b, J + 1, none⟩ (.int .u8 (cb.toNat : Int)) = V := ⟨_, rfl⟩
      obtain ⟨W3, hW3⟩ : ∃ V, W2.setCell ⟨b, J + 2, none⟩ (.int .u8 (cc.toNat : Int)) = V := ⟨_, rfl⟩
      obtain ⟨W4, hW4⟩ : ∃ V, W3.setCell ⟨b, J + 3, none⟩ (.int .u8 (cd.toNat : Int)) = V := ⟨_, rfl⟩
      have R1 : Row W1 b 23 (bvs (front (Sh.outs st) 32 (J + 1))) := by rw [← hW1, ← f0]; exact HO.out.set J _
      have R2 : Row W2 b 23 (bvs (front (Sh.outs st) 32 (J + 2))) := by rw [← hW2, ← f1]; exact R1.set (J + 1) _
      have R3 : Row W3 b 23 (bvs (front (Sh.outs st) 32 (J + 3))) := by rw [← hW3, ← f2]; exact R2.set (J + 2) _
      have R4 : Row W4 b 23 (bvs (front (Sh.outs st) 32 (J + 4))) := by rw [← hW4, ← f3]; exact R3.set (J + 3) _
      have k1 : Keeps (fun q => q = b) wc W1 := by rw [← hW1]; exact Keeps.setCell (p := ⟨b, J, none⟩) hkp (fun _ => rfl) _
      have k2 : Keeps (fun q => q = b) wc W2 := by rw [← hW2]; exact Keeps.setCell (p := ⟨b, J + 1, none⟩) k1 (fun _ => rfl) _
      have k3 : Keeps (fun q => q = b) wc W3 := by rw [← hW3]; exact Keeps.setCell (p := ⟨b, J + 2, none⟩) k2 (fun _ => rfl) _
      have k4 : Keeps (fun q => q = b) wc W4 := by rw [← hW4]; exact Keeps.setCell (p := ⟨b, J + 3, none⟩) k3 (fun _ => rfl) _
      obtain ⟨z0, d0⟩ := front_cell HO.out (Sh.outs_length st) (show J < 32 by omega)
      obtain ⟨z1, d1⟩ := front_cell R1 (Sh.outs_length st) (show J + 1 < 32 by omega)
      obtain ⟨z2, d2⟩ := front_cell R2 (Sh.outs_length st) (show J + 2 < 32 by omega)
      obtain ⟨z3, d3⟩ := front_cell R3 (Sh.outs_length st) (show J + 3 < 32 by omega)
      have y0 := HO.out.frozen J
      have y1 := R1.frozen (J + 1)
      have y2 := R2.frozen (J + 2)
      have y3 := R3.frozen (J + 3)
      have x0 := hx' wr hkp
      have x1 := hx' W1 k1
      have x2 := hx' W2 k2
      have x3 := hx' W3 k3
      have HR4 := Lib.hid R4
      have HK4 := Lib.hid k4
      have j8 : (j : Int) < 8 := by omega
      have J28 : (J : Int) ≤ 28 := by omega
      have HJ := Lib.hid hJ
      clear R1 R2 R3 R4 k1 k2 k3 k4 f0 f1 f2 f3 oa ob oc od out hx' HO hkp hJ hx
      go_wp2_with fail
      clear hW1 hW2 hW3 hW4
      go_roundw
      case rel => exact ⟨j + 1, by omega, by go_num, Lib.hid (by rw [show 4 * (j + 1) = J + 4 by have := HJ.out; omega]; exact HR4.out), HK4.out⟩
      case measure => simp [intOf]; omega
    · have ej : 4 * j = 32 := by omega
      rw [ej, front_all _ _ (Sh.outs_length st)] at HO
      have hfin := hexit wr ⟨HO.out, hkp⟩
      clear hexit
      go_wp2_with fail
      exact hfin _ _ _ _ _ _ _ _ _ _ _ _ _ _ _ _ _ _ _ _ _ _ _ _ _ _ _ _ _ _ _ _ _ _ _ _ _ _ _ _ _ _ _

end Go.Proofs.YtgbajlmcoghofaaDoor
namespace Go.Proofs.YtgbajlmcoghofaaDoor
open Go.RowKit Go.BigFrame
set_option linter.unusedVariables false

noncomputable def loop4c : Code := ((Tryd.f21.body.bind (findLoop 17)).getD .skip)
set_option maxRecDepth 1000000 in
set_option maxHeartbeats 8000000 in
theorem loop4 {u1 u2 u3 u4 u5 u6 u10 u11 u12 u13 u14 u15 u16 u17 u18 u19 u20 u21 u22 u23 u24 u25 u26 u27 u28 u29 u30 u31 u32 u33 u34 u35 u36 u37 u38 u39 u40 u41 u42 u43 u44 u45 u46 u47 u48 u49 u50 u51 u52 u53 u54 u55 u56 u57 u58 u59 u60 u61 u62 u63 u64 u65 u66 u67 u68 u69 u70 u71 u72 u73 u74 u75 u76 u77 u78 u79 u80 u81 u82 u83 u84 u85 u86 u87 u88 u89 u90 u91 u92 u93 u94 u95 u96 u97 u98 u99 u100 u101 u102 u103 u104 u105 u106 u107 u108 u109 u110 u111 u112 u113 u114 u115 u116 u117 u118 u119 u120 u121 u122 u123 u124 u125 u126 u127 u128 u129 u130 u131 u132 u133 u134 u135 u136 u137 u138 u139 u140 u141 u142 u143 u144 u145 u146 u147 u148 u149 u150 u151 u152 u153 u154 u155 u156 u157 u158 u159 u160 u161 u162 u163 u164 u165 u166 u167 u168 u169 u170 u171 u172 u173 u174 u175 u176 u177 u178 u179 u180 u181 u182 u183 u184 u185 u186 u187 u188 u189 u190 u191 u192 u193 u194 u195 u196 u197 u198 u199 u200 u201 u202 u203 u204 u205 u206 u207 u208 u209 u210 u211 u212 u213 u214 u215 u216 u217 u218 u219 u220 u221 u222 u223 u224 u225 u226 u227 u228 u229 u230 u231 u232 u233 u234 u235 u236 u237 u238 u239 u240 u241 u242 u243 u244 u245 u246 u247 u248 u249 u250 u251 u252 u253 u254 u255 u256 u257 u258 u259 u260 u261 u262 u263 u264 u265 u266 u267 u268 u269 u270 u271 u272 u273 u274 u275 u276 u277 u278 u279 u280 u281 u282 u283 : Value} (g h : Nat) (P : List UInt8) (wc : World) (Q : Exit → Act → World → Prop) (hQ : ∀ c a a' w, a'.defers = a.defers → Q (.panic c) a w → Q (.panic c) a' w) (hne : g ≠ h) (hmul : P.length % 64 = 0) (hP : P.length ≤ 5200) (hroots : Row wc g 42 (wvs Sh.roots)) (hrow : Row wc h 42 (wvs Sh.st0.list))
    (hexit : ∀  w', (Row w' h 42 (wvs (Sh.mixed P).list) ∧ Keeps (fun q => q = h) wc w') → ∀ t9 t10 t11 t12 t13 t14 t15 t16 t17 t18 t19 t20 t21 t57 t58 t59 t60 t61 t62 t63 t64 t65 t66 t67 t68 t69 t70 t71 t72 t73 t74 t75 t76 t77 t78 t79 t80 t81 t82 t83 t84 t85 t86 t87 t88 t89 t90 t91 t92 t93 t94 t95 t96 t97 t98 t99 t100 t101 t102 t103 t104 t105 t106 t107 t108 t109 t110 t111 t112 t113 t114 t115 t116 t117 t118 t119 t120 t121 t122 t123 t124 t125 t126 t127 t128 t129 t130 t131 t132 t133 t134 t135 t136 t137 t138 t139 t140 t141 t142 t143 t144 t145 t146 t147 t148 t149 t150 t151 t152 t153 t154 t155 t156 t157 t158 t159 t160 t161 t162 t163 t164 t165 t166 t167 t168 t169 t170 t171 t172 t173 t174 t175 t176 t177 t178 t179 t180 t181 t182 t183 t184 t185 t186 t187 t188 t189 t190 t191 t192 t193 t194 t195 t196 t197 t198 t199 t200 t201 t202 t203 t204 t205 t206 t207 t208 t209 t210 t211 t212 t213 t214 t215 t216 t217 t218 t219 t220 t221 t222 t223 t224 t225 t226 t227 t228 t229 t230 t231 t232 t233 t234 t235 t236 t237 t238 t239 t240 : Value, Q (.exit 6) (Act.mk (List.toArray (.string (strOf P) :: u1 :: u2 :: u3 :: u4 :: u5 :: u6 :: .slice (some ⟨g, 0, none⟩) 64 64 :: .slice (some ⟨h, 0, none⟩) 8 8 :: t9 :: t10 :: t11 :: t12 :: t13 :: t14 :: t15 :: t16 :: t17 :: t18 :: t19 :: t20 :: t21 :: u22 :: u23 :: u24 :: u25 :: u26 :: u27 :: u28 :: u29 :: u30 :: u31 :: u32 :: u33 :: u34 :: u35 :: u36 :: u37 :: u38 :: u39 :: u40 :: u41 :: u42 :: u43 :: u44 :: u45 :: u46 :: u47 :: u48 :: u49 :: u50 :: u51 :: u52 :: u53 :: u54 :: u55 :: u56 :: t57 :: t58 :: t59 :: t60 :: t61 :: t62 :: t63 :: t64 :: t65 :: t66 :: t67 :: t68 :: t69 :: t70 :: t71 :: t72 :: t73 :: t74 :: t75 :: t76 :: t77 :: t78 :: t79 :: t80 :: t81 :: t82 :: t83 :: t84 :: t85 :: t86 :: t87 :: t88 :: t89 :: t90 :: t91 :: t92 :: t93 :: t94 :: t95 :: t96 :: t97 :: t98 :: t99 :: t100 :: t101 :: t102 :: t103 :: t104 :: t105 :: t106 :: t107 :: t108 :: t109 :: t110 :: t111 :: t112 :: t113 :: t114 :: t115 :: t116 :: t117 :: t118 :: t119 :: t120 :: t121 :: t122 :: t123 :: t124 :: t125 :: t126 :: t127 :: t128 :: t129 :: t130 :: t131 :: t132 :: t133 :: t134 :: t135 :: t136 :: t137 :: t138 :: t139 :: t140 :: t141 :: t142 :: t143 :: t144 :: t145 :: t146 :: t147 :: t148 :: t149 :: t150 :: t151 :: t152 :: t153 :: t154 :: t155 :: t156 :: t157 :: t158 :: t159 :: t160 :: t161 :: t162 :: t163 :: t164 :: t165 :: t166 :: t167 :: t168 :: t169 :: t170 :: t171 :: t172 :: t173 :: t174 :: t175 :: t176 :: t177 :: t178 :: t179 :: t180 :: t181 :: t182 :: t183 :: t184 :: t185 :: t186 :: t187 :: t188 :: t189 :: t190 :: t191 :: t192 :: t193 :: t194 :: t195 :: t196 :: t197 :: t198 :: t199 :: t200 :: t201 :: t202 :: t203 :: t204 :: t205 :: t206 :: t207 :: t208 :: t209 :: t210 :: t211 :: t212 :: t213 :: t214 :: t215 :: t216 :: t217 :: t218 :: t219 :: t220 :: t221 :: t222 :: t223 :: t224 :: t225 :: t226 :: t227 :: t228 :: t229 :: t230 :: t231 :: t232 :: t233 :: t234 :: t235 :: t236 :: t237 :: t238 :: t239 :: t240 :: u241 :: u242 :: u243 :: u244 :: u245 :: u246 :: u247 :: u248 :: u249 :: u250 :: u251 :: u252 :: u253 :: u254 :: u255 :: u256 :: u257 :: u258 :: u259 :: u260 :: u261 :: u262 :: u263 :: u264 :: u265 :: u266 :: u267 :: u268 :: u269 :: u270 :: u271 :: u272 :: u273 :: u274 :: u275 :: u276 :: u277 :: u278 :: u279 :: u280 :: u281 :: u282 :: u283 :: [])) []) w') : Code.wp Tryd.prog loop4c Q (Act.mk (List.toArray (.string (strOf P) :: u1 :: u2 :: u3 :: u4 :: u5 :: u6 :: .slice (some ⟨g, 0, none⟩) 64 64 :: .slice (some ⟨h, 0, none⟩) 8 8 :: .int .i64 0 :: u10 :: u11 :: u12 :: u13 :: u14 :: u15 :: u16 :: u17 :: u18 :: u19 :: u20 :: u21 :: u22 :: u23 :: u24 :: u25 :: u26 :: u27 :: u28 :: u29 :: u30 :: u31 :: u32 :: u33 :: u34 :: u35 :: u36 :: u37 :: u38 :: u39 :: u40 :: u41 :: u42 :: u43 :: u44 :: u45 :: u46 :: u47 :: u48 :: u49 :: u50 :: u51 :: u52 :: u53 :: u54 :: u55 :: u56 :: u57 :: u58 :: u59 :: u60 :: u61 :: u62 :: u63 :: u64 :: u65 :: u66 :: u67 :: u68 :: u69 :: u70 :: u71 :: u72 :: u73 :: u74 :: u75 :: u76 :: u77 :: u78 :: u79 :: u80 :: u81 :: u82 :: u83 :: u84 :: u85 :: u86 :: u87 :: u88 :: u89 :: u90 :: u91 :: u92 :: u93 :: u94 :: u95 :: u96 :: u97 :: u98 :: u99 :: u100 :: u101 :: u102 :: u103 :: u104 :: u105 :: u106 :: u107 :: u108 :: u109 :: u110 :: u111 :: u112 :: u113 :: u114 :: u115 :: u116 :: u117 :: u118 :: u119 :: u120 :: u121 :: u122 :: u123 :: u124 :: u125 :: u126 :: u127 :: u128 :: u129 :: u130 :: u131 :: u132 :: u133 :: u134 :: u135 :: u136 :: u137 :: u138 :: u139 :: u140 :: u141 :: u142 :: u143 :: u144 :: u145 :: u146 :: u147 :: u148 :: u149 :: u150 :: u151 :: u152 :: u153 :: u154 :: u155 :: u156 :: u157 :: u158 :: u159 :: u160 :: u161 :: u162 :: u163 :: u164 :: u165 :: u166 :: u167 :: u168 :: u169 :: u170 :: u171 :: u172 :: u173 :: u174 :: u175 :: u176 :: u177 :: u178 :: u179 :: u180 :: u181 :: u182 :: u183 :: u184 :: u185 :: u186 :: u187 :: u188 :: u189 :: u190 :: u191 :: u192 :: u193 :: u194 :: u195 :: u196 :: u197 :: u198 :: u199 :: u200 :: u201 :: u202 :: u203 :: u204 :: u205 :: u206 :: u207 :: u208 :: u209 :: u210 :: u211 :: u212 :: u213 :: u214 :: u215 :: u216 :: u217 :: u218 :: u219 :: u220 :: u221 :: u222 :: u223 :: u224 :: u225 :: u226 :: u227 :: u228 :: u229 :: u230 :: u231 :: u232 :: u233 :: u234 :: u235 :: u236 :: u237 :: u238 :: u239 :: u240 :: u241 :: u242 :: u243 :: u244 :: u245 :: u246 :: u247 :: u248 :: u249 :: u250 :: u251 :: u252 :: u253 :: u254 :: u255 :: u256 :: u257 :: u258 :: u259 :: u260 :: u261 :: u262 :: u263 :: u264 :: u265 :: u266 :: u267 :: u268 :: u269 :: u270 :: u271 :: u272 :: u273 :: u274 :: u275 :: u276 :: u277 :: u278 :: u279 :: u280 :: u281 :: u282 :: u283 :: [])) []) wc := by
  conv => arg 2; whnf
  have HRT := Lib.hid hroots
  have HROW := Lib.hid hrow
  clear hroots hrow
  go_loopw [9] (fun atv wq => ∃ t q : Nat, q = 64 * t ∧ q ≤ P.length ∧ atv = .int .i64 (q : Int) ∧ Hid (Row wq h 42 (wvs (Sh.eat t Sh.st0 P).list)) ∧ Keeps (fun k => k = h) wc wq) (fun atv _ => 6000 - (intOf atv).toNat)
  case atStart => exact ⟨0, 0, rfl, by omega, rfl, HROW, Keeps.refl _ _⟩
  case round =>
    clear HROW
    obtain ⟨t, q, hq, hqP, rfl, RT, kt⟩ := hrel
    obtain ⟨wa, hwa⟩ : ∃ wa : World, wa = wr := ⟨_, rfl⟩
    subst hwa
    have hPs : (strOf P).size = P.length := rfl
    have HPS := Lib.hid hPs
    obtain ⟨PL, hPL⟩ : ∃ PL, P.length = PL := ⟨_, rfl⟩
    rw [hPL] at hPs hqP hmul hP
    have HPL := Lib.hid hPL
    clear hPL
    by_cases hlt : q < PL
    · have ht2 : q + 64 ≤ PL := by omega
      obtain ⟨u0, hu0, hv0, hw0, hx0⟩ := info_parts info_u32
      obtain ⟨blk, hblk⟩ : ∃ blk, (P.drop (64 * t)).take 64 = blk := ⟨_, rfl⟩
      have HBLK := Lib.hid hblk
      have KT := Lib.hid kt
      have sa := kt.size
      have gl : g < wa.heap.size := by have := HRT.out.lt; omega
      have hl : h < wa.heap.size := RT.out.lt
      have HQ4 := Lib.hid hq
      clear kt hblk hq hmul
      go_wp2_with fail
      clear hPs
      refine loop5 P blk t q wa _ HQ4.out (by rw [HPL.out]; exact ht2) (by rw [HPL.out]; exact hP) HBLK.out ?_
      intro g6 c6 w5 h5
      obtain ⟨ho5, hk5⟩ := h5
      intros
      have HO5 := Lib.hid ho5
      have HK5 := Lib.hid hk5
      have s5 := hk5.size
      clear ho5 hk5
      try simp only [Exit.inBlock, Exit.then]
      go_wp2_with fail
      refine loop6 g6 c6 wa.heap.size (Sh.firstN 16 blk) w5 _ (fun c a a' w hd hp => hQ _ _ _ _ hd hp) (Sh.firstN_length _ _) s5 HO5.out ?_
      intro g0 c1 w6 h6
      obtain ⟨ho6, hk6⟩ := h6
      intros
      have HO6 : Hid (w6.ownsRow wa.heap.size 42 1 (.slice (some ⟨g0, 0, none⟩) 64 c1) 64 (wvs (Sh.words blk))) := Lib.hid ho6
      have HK6 := Lib.hid (HK5.out.trans hk6)
      have s6 := hk6.size
      clear ho6 hk6 HK5 HO5
      obtain ⟨WS, hWS⟩ : ∃ WS, Sh.words blk = WS := ⟨_, rfl⟩
      rw [hWS] at HO6
      have HWD := Lib.hid hWS
      obtain ⟨SS, hSS⟩ : ∃ SS, Sh.eat t Sh.st0 P = SS := ⟨_, rfl⟩
      have HSS := Lib.hid hSS
      rw [hSS] at RT
      have hrow6 : Row w6 h 42 (wvs SS.list) := RT.out.keeps HK6.out (by omega)
      have hsrc : ∀ j u, (wvs SS.list)[j]? = some u → w6.cell? ((⟨h, 0, none⟩ : Addr).add j) = some u := fun j u hu => by
        rw [add_plain, Nat.zero_add, hrow6.cell]
        exact hu
      have HSRC := Lib.hid hsrc
      clear hWS hSS hrow6 hsrc
      simp only [Exit.inBlock, Exit.then]
      rw [if_pos trivial]
      iterate 9 (first | go_values | go_skip | go_guarded | go_step | go_upon | go_back)
      iterate 8 (first | go_values | go_skip | go_guarded | go_step)
      refine wpList_append_own _ (by rfl) (.tmp 128) (.tmp 129) 67 (by rfl) w6.heap.size 42 u0 (.int .u32 0) 1 4 Tryd.underlying67 hu0 hv0 hw0 hx0 (by rfl) (by decide) (.slice none 0 0) 0 [] (by rfl) (World.ownsRow_nil _ _ _ _) ⟨h, 0, none⟩ 8 8 (wvs SS.list) (by rfl) (by rfl) HSRC.out (wvs_one _) (by unfold maxLen; omega) (by omega) (Nat.le_refl _) ?_
      intro v' wd ho' hg' _
      obtain ⟨gv, cv, rfl⟩ := own_some ho' (by omega)
      rw [List.nil_append] at ho'
      have hkc : Keeps (fun _ => False) w6 wd := (Keeps.refl _ _).grown hg' (fun k _ hh => by cases hh)
      have hvs : Src wd (some ⟨gv, 0, none⟩) (wvs SS.list) := Src.of_own ho'
      have bgv : w6.heap.size ≤ gv := (own_block ho' gv rfl).elim fun _ h => h.2
      have bwd := hkc.size
      have HVS := Lib.hid hvs
      have HKC : Hid (Keeps (fun k => wa.heap.size ≤ k) wa wd) := Lib.hid (HK6.out.trans' hkc (fun _ _ h => h.elim))
      have HOC : Hid (wd.ownsRow wa.heap.size 42 1 (.slice (some ⟨g0, 0, none⟩) 64 c1) 64 (wvs WS)) := Lib.hid (hkc.owns HO6.out (fun _ _ => id))
      have HROOT : Hid (Row wd g 42 (wvs Sh.roots)) := Lib.hid ((HRT.out.keeps KT.out hne).keeps HKC.out (by omega))
      have HROWD : Hid (Row wd h 42 (wvs SS.list)) := Lib.hid (RT.out.keeps HKC.out (by omega))
      clear ho' hg' hkc hvs HSRC HO6 HK6
      go_wp2_with fail
      refine loop7 gv cv g g0 c1 w6.heap.size SS blk wd _ bgv bwd HVS.out ?_ ?_ ?_
      · intro V hV k x hx
        have r2 : Row V g 42 (wvs Sh.roots) := HROOT.out.keeps hV.out id
        rw [r2.cell, wvs_get, hx.out]
        rfl
      · intro V hV k y hy
        have h1 := hy.out
        rw [HWD.out] at h1
        have h2 := (hV.out.owns HOC.out (fun _ _ => id)).cells (g := g0) rfl k (.int .u32 (wi y)) (by rw [wvs_get, h1]; rfl)
        rwa [add_plain, Nat.zero_add] at h2
      intro gs cs w7 h7
      obtain ⟨k7, b7, v7⟩ := h7
      intros
      have K7 := Lib.hid k7
      have V7 := Lib.hid v7
      have R7 : Hid (Row w7 h 42 (wvs SS.list)) := Lib.hid (HROWD.out.keeps k7.out id)
      have g8 : gs ≠ h := by omega
      clear k7 v7 HROWD HVS HOC HROOT b7 bgv bwd s5 s6 sa
      simp only [Exit.inBlock, Exit.then]
      rw [if_pos trivial]
      iterate 10 (first | go_values | go_skip | go_guarded | go_step | go_upon | go_back)
      refine loop8 h gs cs SS (after SS blk 64) w7 _ g8 R7.out V7.out ?_
      intro w8 h8
      obtain ⟨r8, k8⟩ := h8
      intros
      rw [after_all, ← HSS.out, ← HBLK.out, ← Sh.eat_snoc] at r8
      have HR8 := Lib.hid r8
      have HK8 : Hid (Keeps (fun k => k = h) wc w8) := Lib.hid (((KT.out.trans' HKC.out (fun k hk hh => by have := KT.out.size; omega)).trans' K7.out.out (fun _ _ h => h.elim)).trans k8)
      clear r8 k8
      simp only [Exit.inBlock, Exit.then]
      rw [if_pos trivial]
      go_wp2_with fail
      go_roundw
      case rel => exact ⟨t + 1, q + 64, by have := HQ4.out; omega, by rw [HPL.out]; omega, by go_num, HR8, HK8.out⟩
      case measure => simp [intOf]; omega
    · have eq1 : q = PL := by omega
      have et : Sh.eat t Sh.st0 P = Sh.mixed P := by
        unfold Sh.mixed
        rw [HPL.out, show t = PL / 64 by omega]
      rw [et] at RT
      have hfin := hexit wa ⟨RT.out, kt⟩
      clear hexit hq hmul et eq1 HRT kt
      go_wp2_with fail
      exact hfin _ _ _ _ _ _ _ _ _ _ _ _ _ _ _ _ _ _ _ _ _ _ _ _ _ _ _ _ _ _ _ _ _ _ _ _ _ _ _ _ _ _ _ _ _ _ _ _ _ _ _ _ _ _ _ _ _ _ _ _ _ _ _ _ _ _ _ _ _ _ _ _ _ _ _ _ _ _ _ _ _ _ _ _ _ _ _ _ _ _ _ _ _ _ _ _ _ _ _ _ _ _ _ _ _ _ _ _ _ _ _ _ _ _ _ _ _ _ _ _ _ _ _ _ _ _ _ _ _ _ _ _ _ _ _ _ _ _ _ _ _ _ _ _ _ _ _ _ _ _ _ _ _ _ _ _ _ _ _ _ _ _ _ _ _ _ _ _ _ _ _ _ _ _ _ _ _ _ _ _ _ _ _ _ _ _ _ _ _ _ _ _ _ _ _ _ _

end Go.Proofs.YtgbajlmcoghofaaDoor
namespace Go.Proofs.YtgbajlmcoghofaaDoor
open Go.RowKit
set_option linter.unusedVariables false

def strLen : Value → Nat
  | .string s => s.size
  | _ => 0
set_option maxRecDepth 100000 in
set_option maxHeartbeats 40000000 in
theorem rof_any (xs : List UInt8) (w : World) (hx : xs.length ≤ 5000) :
    Calls Tryd.prog 21 #[.string (strOf xs)] w fun e w' => e = .returned (.agg (bvs (Sh.sha xs)).toArray) ∧ Keeps (fun _ => False) w w' := by
  obtain ⟨Z, hZ⟩ : ∃ Z : Array Value, (bvs (List.replicate 32 0)).toArray = Z := ⟨_, rfl⟩
  have hz : ∀ w : World, (zeroValue 23).run Tryd.prog w = .ok (.agg Z) w := fun _ => by subst hZ; kernel_rfl
  have HZ := Lib.hid hZ
  obtain ⟨n, hn⟩ : ∃ n, xs.length = n := ⟨_, rfl⟩
  obtain ⟨z, hzn⟩ : ∃ z, (119 - n % 64) % 64 = z := ⟨_, rfl⟩
  have hsz : (strOf xs).size = n := hn
  obtain ⟨s, hs⟩ : ∃ s, strOf xs = s := ⟨_, rfl⟩
  have e80 : (strOf xs).size + (ByteArray.mk #[128]).size ≤ 5001 := by rw [hsz]; show n + 1 ≤ 5001; omega
  rw [hs] at hsz e80 ⊢
  have HS := Lib.hid hs
  clear hZ hs
  go_enter Tryd.func21, Tryd.ntmps21
  go_wp2_with fail
  go_loopw [0] (fun v wr => ∃ j : Nat, j ≤ z ∧ v = .string (strOf (xs ++ 128 :: List.replicate j 0)) ∧ wr = w.alloc (.cells Z 23)) (fun v _ => n + 1 + z - strLen v)
  case atStart => exact ⟨0, by omega, by rw [← HS.out]; show _ = Value.string (strOf (xs ++ [128])); rw [← str_app]; rfl, rfl⟩
  case round =>
    obtain ⟨j, hj, rfl, rfl⟩ := hrel
    obtain ⟨ys, hy⟩ : ∃ ys, xs ++ 128 :: List.replicate j (0 : UInt8) = ys := ⟨_, rfl⟩
    have hl : ys.length = n + 1 + j := by rw [← hy, List.length_append, hn, List.length_cons, List.length_replicate]; omega
    have hy2 : xs ++ 128 :: List.replicate (j + 1) (0 : UInt8) = ys ++ [0] := by rw [← hy, List.replicate_succ', List.append_assoc]; rfl
    rw [hy]
    have hz1 : (strOf ys).size = n + 1 + j := hl
    have hz2 : (strOf ys).size + (ByteArray.mk #[0]).size ≤ 5200 := by rw [hz1]; show n + 1 + j + 1 ≤ 5200; omega
    have em : (strOf ys ++ ByteArray.mk #[0]).size = n + 1 + j + 1 := by
      rw [show ByteArray.mk #[0] = strOf [0] from rfl, str_app, str_size, List.length_append, hl]
      rfl
    have EM := Lib.hid em
    have HY2 := Lib.hid hy2
    have HY := Lib.hid hy
    have HL := Lib.hid hl
    clear hy hy2 hl em
    by_cases hlt : j < z
    · have hne : ((n : Int) + 1 + j).tmod 64 ≠ 56 := by rw [Int.tmod_eq_emod_of_nonneg (by omega)]; omega
      have hne2 : ((n : Int) + 1 + j) % 64 ≠ 56 := by omega
      go_wp2
      go_roundw
      case rel => exact ⟨j + 1, by omega, by rw [HY2.out, ← str_app]; rfl, by first | rfl | trivial⟩
      case measure =>
        show n + 1 + z - (strOf ys ++ ByteArray.mk #[0]).size < n + 1 + z - (strOf ys).size
        rw [EM.out, str_size, HL.out]
        omega
    · have heq : ((n : Int) + 1 + j).tmod 64 = 56 := by rw [Int.tmod_eq_emod_of_nonneg (by omega)]; omega
      have heq2 : ((n : Int) + 1 + j) % 64 = 56 := by omega
      obtain rfl : j = z := by omega
      obtain ⟨W1, hW1⟩ : ∃ V, w.alloc (.cells Z 23) = V := ⟨_, rfl⟩
      rw [hW1]
      have k1 : Keeps (fun _ => False) w W1 := by rw [← hW1]; exact (Keeps.refl _ _).alloc _
      have hM : (n + 1 + j) % 64 = 56 := by omega
      have hM2 : n + 1 + j ≤ 5065 := by omega
      have hzn2 := hzn
      clear heq heq2 hlt hj hzn
      go_wp2_with fail
      go_loopw [0, 4] (fun v iv wr => ∃ i : Nat, i ≤ 8 ∧ iv = .int .i64 i ∧ v = .string (strOf (ys ++ (List.range i).map fun q => UInt8.ofNat (8 * n / 256 ^ (7 - q)))) ∧ Keeps (fun _ => False) W1 wr) (fun _ iv _ => 8 - (intOf iv).toNat)
      case atStart => exact ⟨0, by omega, rfl, by simp, Keeps.refl _ _⟩
      case round =>
        obtain ⟨i, hi, rfl, rfl, hkp⟩ := hrel
        by_cases hlt : i < 8
        · obtain ⟨us, hu⟩ : ∃ us, ys ++ (List.range i).map (fun q => UInt8.ofNat (8 * n / 256 ^ (7 - q))) = us := ⟨_, rfl⟩
          have hul : us.length = n + 1 + j + i := by rw [← hu, List.length_append, HL.out]; simp
          have hun : ys ++ (List.range (i + 1)).map (fun q => UInt8.ofNat (8 * n / 256 ^ (7 - q))) = us ++ [UInt8.ofNat (8 * n / 256 ^ (7 - i))] := by rw [List.range_succ, List.map_append, ← List.append_assoc, hu]; rfl
          rw [hu]
          have HUN := Lib.hid hun
          have HUL := Lib.hid hul
          clear hu hun hul
          go_wp2_with fail
          go_loopw [5, 6] (fun d kv wi' => ∃ k : Nat, i ≤ k ∧ k ≤ 7 ∧ kv = .int .i64 k ∧ d = .int .u64 (((256 ^ (k - i) : Nat)) : Int) ∧ wi' = wr) (fun _ kv _ => 7 - (intOf kv).toNat)
          case atStart => exact ⟨i, by omega, by omega, rfl, by simp, rfl⟩
          case round =>
            obtain ⟨k, hk1, hk2, rfl, rfl, rfl⟩ := hrel
            by_cases hlt2 : k < 7
            · have hp : (256 : Nat) ^ (k + 1 - i) = 256 ^ (k - i) * 256 := by rw [show k + 1 - i = k - i + 1 by omega, Nat.pow_succ]
              have hb : (256 : Nat) ^ (k - i) ≤ 256 ^ 6 := Nat.pow_le_pow_right (by omega) (by omega)
              obtain ⟨D, hD⟩ : ∃ D, (256 : Nat) ^ (k - i) = D := ⟨_, rfl⟩
              rw [hD] at hp hb ⊢
              have hb2 : D ≤ 281474976710656 := hb
              have HP := Lib.hid hp
              clear hp hb hD
              go_wp2
              go_roundw
              case rel => exact ⟨k + 1, by omega, by omega, by go_num, by rw [HP.out]; go_num, by first | rfl | trivial⟩
              case measure => simp [intOf]; omega
            · obtain rfl : k = 7 := by omega
              have dpos : 0 < (256 : Nat) ^ (7 - i) := Nat.pow_pos (by decide)
              have dle : (256 : Nat) ^ (7 - i) ≤ 256 ^ 7 := Nat.pow_le_pow_right (by omega) (by omega)
              obtain ⟨D, hD⟩ : ∃ D, (256 : Nat) ^ (7 - i) = D := ⟨_, rfl⟩
              rw [hD] at dpos dle HUN ⊢
              obtain ⟨q, hq⟩ : ∃ q, 8 * n / D = q := ⟨_, rfl⟩
              rw [hq] at HUN
              have q1 : q ≤ 8 * n := by rw [← hq]; exact Nat.div_le_self _ _
              obtain ⟨c, hc⟩ : ∃ c, UInt8.ofNat q = c := ⟨_, rfl⟩
              rw [hc] at HUN
              have dle2 : D ≤ 72057594037927936 := dle
              have Q1 : ((n : Int) * 8).tdiv (D : Int) = (q : Int) := by rw [Int.tdiv_eq_ediv_of_nonneg (by omega), ← hq, Nat.mul_comm 8 n]; simp
              have Q2 : ((n : Int) * 8) / (D : Int) = (q : Int) := by rw [← hq, Nat.mul_comm 8 n]; simp
              have C2 : (q : Int) % 256 = (c.toNat : Int) := by rw [← hc, UInt8.toNat_ofNat']; simp
              have C1 : IntKind.u8.wrap (q : Int) = (c.toNat : Int) := by rw [← C2]; exact IntKind.wrap_u8' _
              have D0 : (D : Int) ≠ 0 := by omega
              have HCV : ∀ W : World, (convert 24 9 (.slice (some ⟨W.heap.size, 0, none⟩) 1 1)).run Tryd.prog (W.alloc (.cells #[.int .u8 (c.toNat : Int)] 5)) = .ok (.string (strOf [c])) (W.alloc (.cells #[.int .u8 (c.toNat : Int)] 5)) := fun W =>
                run_string_src (P := Tryd.prog) (W.alloc (.cells #[.int .u8 (c.toNat : Int)] 5)) 24 9 5 Tryd.underlying24 Tryd.underlying5 Tryd.underlying9 (some ⟨W.heap.size, 0, none⟩) [c] 1 (fun j u hu => ⟨_, rfl, World.news_of_block (heap_alloc_new W _) j u hu⟩)
              have hsz1 : (strOf us).size + (strOf [c]).size ≤ 5200 := by rw [str_size, str_size, HUL.out, List.length_singleton]; omega
              have hK : Hid (Keeps (fun _ => False) W1 (wr.alloc (.cells #[.int .u8 (c.toNat : Int)] 5))) := hkp.alloc _
              clear hD hq hc dle hkp hlt2 hk1 hk2
              go_wp2
              go_roundw
              case rel => exact ⟨i + 1, by omega, by go_num, by rw [HUN.out, ← str_app], hK.out⟩
              case measure => simp [intOf]; omega
        · obtain rfl : i = 8 := by omega
          have hpad : ys ++ (List.range 8).map (fun q => UInt8.ofNat (8 * n / 256 ^ (7 - q))) = Sh.pad xs := by
            rw [← HY.out]
            unfold Sh.pad Sh.padL
            rw [hn, List.append_assoc, List.cons_append]
            subst hzn2
            rfl
          rw [hpad]
          have hPl : (Sh.pad xs).length = n + 1 + j + 8 := by rw [← hpad, List.length_append, HL.out]; simp
          obtain ⟨P, hP⟩ : ∃ P, Sh.pad xs = P := ⟨_, rfl⟩
          rw [hP] at hPl ⊢
          have HP := Lib.hid hP
          have HPL := Lib.hid hPl
          clear hpad hP hPl hlt
          go_wp2_with fail
          refine (roots_any _).mono ?_
          rintro e w2 ⟨rfl, hw2⟩
          have r2 : Row w2 wr.heap.size 42 (wvs Sh.roots) := by rw [hw2]; exact heap_alloc_new wr _
          have kp2 : Keeps (fun _ => False) W1 w2 := by rw [hw2]; exact hkp.alloc _
          have b2 : wr.heap.size < w2.heap.size := by rw [hw2]; simp
          obtain ⟨w3, hw3⟩ : ∃ V, w2.alloc (.cells #[.int .u32 1779033703, .int .u32 3144134277, .int .u32 1013904242, .int .u32 2773480762, .int .u32 1359893119, .int .u32 2600822924, .int .u32 528734635, .int .u32 1541459225] 42) = V := ⟨_, rfl⟩
          have r3 : Row w3 w2.heap.size 42 (wvs Sh.st0.list) := by rw [← hw3]; exact heap_alloc_new w2 _
          have kp3 : Keeps (fun _ => False) w2 w3 := by rw [← hw3]; exact (Keeps.refl _ _).alloc _
          have r23 := r2.keeps kp3 id
          have K3 := Lib.hid ((k1.trans kp2).trans kp3)
          have R23 := Lib.hid r23
          have b3 : w2.heap.size < w3.heap.size := by rw [← hw3]; simp
          have o1 : Row W1 w.heap.size 23 (bvs (List.replicate 32 0)) := by
            rw [← hW1]
            have := heap_alloc_new w (.cells Z 23)
            rw [← HZ.out] at this ⊢
            exact this
          have HO1 : Hid (Row w3 w.heap.size 23 (bvs (List.replicate 32 0))) := Lib.hid (o1.keeps (kp2.trans kp3) id)
          have hb1 : w.heap.size < w3.heap.size := HO1.out.lt
          have hob : w.heap.size < wr.heap.size := by have := o1.lt; have := hkp.size; omega
          obtain ⟨g, hg⟩ : ∃ g, wr.heap.size = g := ⟨_, rfl⟩
          obtain ⟨h, hh⟩ : ∃ h, w2.heap.size = h := ⟨_, rfl⟩
          rw [hg] at R23 b2 ⊢
          rw [hh] at r3 b3 b2
          have HH := Lib.hid hh
          have hmul : P.length % 64 = 0 := by rw [HPL.out]; omega
          have hP6 : P.length ≤ 5200 := by rw [HPL.out]; omega
          have hgh : g ≠ h := by omega
          have hwh : w.heap.size ≠ h := by omega
          have hwh2 : w.heap.size < h := by omega
          have HMUL := Lib.hid hmul
          have HR3 := Lib.hid r3
          clear hw2 r2 kp2 kp3 r23 hkp hg o1 hmul r3 hW1 k1
          go_wp2_with fail
          clear hw3 hh
          refine loop4 g h P w3 _ ?_ hgh HMUL.out hP6 R23.out HR3.out ?_
          · intro c a a' w hd hp
            exact ⟨hd.trans hp.1, hp.2⟩
          intro w4 h4
          obtain ⟨r4, k4⟩ := h4
          intros
          have R4 := Lib.hid r4
          have K4 := Lib.hid k4
          have s4 := k4.size
          have HO4 : Hid (Row w4 w.heap.size 23 (bvs (List.replicate 32 0))) := Lib.hid (HO1.out.keeps k4 hwh)
          have hb4 := HO4.out.lt
          clear r4 k4
          try simp only [Exit.inBlock, Exit.then]
          try rw [if_pos trivial]
          obtain ⟨w5, hw5⟩ : ∃ V, w4.alloc (.cells Z 23) = V := ⟨_, rfl⟩
          have r5 : Row w5 w4.heap.size 23 (bvs (List.replicate 32 0)) := by
            rw [← hw5]
            have := heap_alloc_new w4 (.cells Z 23)
            rw [← HZ.out] at this ⊢
            exact this
          have k5 : Keeps (fun _ => False) w4 w5 := by rw [← hw5]; exact (Keeps.refl _ _).alloc _
          obtain ⟨b, hb⟩ : ∃ b, w4.heap.size = b := ⟨_, rfl⟩
          have hlt9 := R4.out.lt
          have HH5 : Hid (Row w5 h 42 (wvs (Sh.mixed P).list)) := Lib.hid (R4.out.keeps k5 id)
          have HO5 : Hid (Row w5 w.heap.size 23 (bvs (List.replicate 32 0))) := Lib.hid (HO4.out.keeps k5 id)
          have HK5 := Lib.hid k5
          rw [hb] at r5
          have HR5 := Lib.hid r5
          have hhb : h ≠ b := by omega
          have hwb : w.heap.size ≠ b := by omega
          have hwb2 : w.heap.size < b := by omega
          clear r5 k5
          go_wp2_with fail
          clear hw5 hb
          refine loop9 h b (Sh.mixed P) w5 _ hhb HH5.out HR5.out ?_
          intro w6 h6
          obtain ⟨r6, k6⟩ := h6
          intros
          have HO6 : Hid (Row w6 w.heap.size 23 (bvs (List.replicate 32 0))) := Lib.hid (HO5.out.keeps k6 hwb)
          have HR6 := Lib.hid r6
          have HK6 := Lib.hid k6
          clear r6 k6
          have HKW : Hid (Keeps (fun _ => False) w w6) := Lib.hid (((K3.out.trans' K4.out (fun i hi e => by omega)).trans HK5.out).trans' HK6.out (fun i hi e => by omega))
          obtain ⟨R, hR⟩ : ∃ R, (bvs (Sh.outs (Sh.mixed P))).toArray = R := ⟨_, rfl⟩
          have hsz2 : (Tryd.prog.info? 23).map (·.size) = some R.size := by rw [← hR, List.size_toArray, bvs_length, Sh.outs_length]; exact size_hash'
          have hz2 : (bvs (List.replicate 32 0)).toArray.size = R.size := by rw [← hR, List.size_toArray, bvs_length, List.size_toArray, bvs_length, Sh.outs_length, List.length_replicate]
          have hone : R.all (·.oneCell') = true := by rw [← hR]; exact bvs_all _
          have hr6 : w6.heap[b]? = some (.cells R 23 (0, 0)) := by rw [← hR]; exact HR6.out
          have ho6 : w6.heap[w.heap.size]? = some (.cells (bvs (List.replicate 32 0)).toArray 23 (0, 0)) := HO6.out
          have HSZ := Lib.hid hsz2
          have HZ2 := Lib.hid hz2
          have HONE := Lib.hid hone
          have HRR := Lib.hid hR
          have HRB := Lib.hid hr6
          have HOB := Lib.hid ho6
          clear hsz2 hz2 hone hR hr6 ho6 hsz hz hn
          try simp only [Exit.inBlock, Exit.then]
          try rw [if_pos trivial]
          go_wp2_with (first | (refine wpList_load_row rfl 23 (.tmp 22) rfl b rfl 23 R (0, 0) _ HRB.out Tryd.underlying23 rfl HSZ.out ?_) | (refine wpList_store_row rfl 23 _ _ rfl w.heap.size R rfl rfl 23 (bvs (List.replicate 32 0)).toArray HOB.out HSZ.out HZ2.out HONE.out ?_))
          refine bodyPost_ret (results_cell_row rfl _ _ w.heap.size 23 R (0, 0) _ rfl (setRow_heap _ _ _ _ _ _ HOB.out) Tryd.underlying23 rfl HSZ.out) rfl ?_
          exact ⟨by rw [Sh.sha_mixed, HP.out, HRR.out], HKW.out.trans' (Keeps.setRow w.heap.size R) (fun i hi h => by omega)⟩
end Go.Proofs.YtgbajlmcoghofaaDoor
