/-
  The document's own hash (assayerref02.Of): its regions that draw their order, each by itself. WRITTEN BY wip/gen/soreg.py.
  The document's own hash (assayerref02.Of): the rounds, and the eight added, each loop by itself. WRITTEN BY wip/gen/soreg.py.
  The document's own hash (assayerref02.Of): a block's numbers, and the eight added. WRITTEN BY wip/gen/soreg.py.
-/
import Derived.Test.YtgbajlmcoghofaaDoorSoM
import Derived.Test.YtgbajlmcoghofaaDoorShaC
import Derived.Test.YtgbajlmcoghofaaDoorOwnL
import Derived.Test.YtgbajlmcoghofaaDoorWalkR
import Derived.Test.YtgbajlmcoghofaaDoorShaNa
namespace Go.Proofs.YtgbajlmcoghofaaDoor
open Go.RowKit Go.BigFrame
set_option linter.unusedVariables false

/-- A region, by its number. -/
def findReg (n : Nat) : Code → Option Code
  | .region k ops d => if k == n then some (.region k ops d) else none
  | .seq a b => match findReg n a with
    | some c => some c
    | none => findReg n b
  | .loop c => findReg n c
  | .block _ c => findReg n c
  | .scope c => findReg n c
  | .cond _ a b => match findReg n a with
    | some c => some c
    | none => findReg n b
  | _ => none

noncomputable def reg37c : Code := ((Tryd.f21.body.bind (findReg 37)).getD .skip)
set_option maxRecDepth 1000000 in
set_option maxHeartbeats 4000000 in
theorem reg37 {u0 u1 u2 u3 u4 u5 u6 u8 u9 u11 u12 u13 u14 u18 u19 u20 u21 u22 u23 u24 u25 u26 u27 u28 u29 u30 u31 u32 u33 u34 u35 u36 u37 u38 u39 u40 u41 u42 u43 u44 u45 u46 u47 u48 u49 u50 u51 u52 u53 u54 u55 u56 u57 u58 u59 u60 u61 u62 u63 u64 u65 u66 u67 u68 u69 u70 u71 u72 u73 u74 u75 u76 u77 u78 u79 u80 u81 u82 u83 u84 u85 u86 u87 u88 u89 u90 u91 u92 u93 u94 u95 u96 u97 u98 u99 u100 u101 u102 u103 u104 u105 u106 u107 u108 u109 u110 u111 u112 u113 u114 u115 u116 u117 u118 u119 u120 u121 u122 u123 u124 u125 u126 u127 u128 u129 u130 u131 u132 u133 u134 u135 u136 u137 u138 u139 u140 u141 u142 u143 u144 u145 u146 u147 u148 u149 u150 u151 u152 u153 u154 u155 u156 u157 u158 u159 u160 u161 u162 u163 u164 u165 u166 u167 u168 u169 u170 u171 u172 u173 u174 u175 u176 u177 u178 u179 u180 u181 u182 u183 u184 u185 u186 u187 u188 u189 u190 u191 u192 u193 u194 u195 u196 u197 u198 u199 u200 u201 u202 u203 u204 u205 u206 u207 u208 u209 u210 u211 u212 u213 u214 u215 u216 u217 u218 u219 u220 u221 u222 u223 u224 u225 u226 u227 u228 u229 u230 u231 u232 u233 u234 u235 u236 u237 u238 u239 u240 u241 u242 u243 u244 u245 u246 u247 u248 u249 u250 u251 u252 u253 u254 u255 u256 u257 u258 u259 u260 u261 u262 u263 u264 u265 u266 u267 u268 u269 u270 u271 u272 u273 u274 u275 u276 u277 u278 u279 u280 u281 u282 u283 : Value} (gs cs g g0 c1 k : Nat) (sn : Sh.St) (x y : UInt32) (wr : World) (Q : Exit → Act → World → Prop) (hk : k < 64) (V5 : ∀ V, Later wr V → V.cell? ⟨gs, 5, none⟩ = some (.int .u32 (wi sn.f))) (V6 : ∀ V, Later wr V → V.cell? ⟨gs, 6, none⟩ = some (.int .u32 (wi sn.g))) (V7 : ∀ V, Later wr V → V.cell? ⟨gs, 7, none⟩ = some (.int .u32 (wi sn.h))) (VK : ∀ V, Later wr V → V.cell? ⟨g, k, none⟩ = some (.int .u32 (wi x))) (VW : ∀ V, Later wr V → V.cell? ⟨g0, k, none⟩ = some (.int .u32 (wi y)))
    (h : ∀  w', Later wr w' → ∀ t141 t142 t143 t144 t145 t146 t147 t148 t149 t150 t151 t152 t153 t154 t155 t156 t157 t158 t159 t160 t161 t162 t163 t164 t165 t166 t167 t168 t169 t170 t171 t172 t173 t174 t175 : Value, Q .normal (Act.mk (List.toArray (u0 :: u1 :: u2 :: u3 :: u4 :: u5 :: u6 :: .slice (some ⟨g, 0, none⟩) 64 64 :: u8 :: u9 :: .slice (some ⟨g0, 0, none⟩) 64 c1 :: u11 :: u12 :: u13 :: u14 :: .slice (some ⟨gs, 0, none⟩) 8 cs :: .int .i64 (k : Int) :: .int .u32 (wi sn.e) :: u18 :: .int .u32 (wi (Sh.tt sn x y)) :: u20 :: u21 :: u22 :: u23 :: u24 :: u25 :: u26 :: u27 :: u28 :: u29 :: u30 :: u31 :: u32 :: u33 :: u34 :: u35 :: u36 :: u37 :: u38 :: u39 :: u40 :: u41 :: u42 :: u43 :: u44 :: u45 :: u46 :: u47 :: u48 :: u49 :: u50 :: u51 :: u52 :: u53 :: u54 :: u55 :: u56 :: u57 :: u58 :: u59 :: u60 :: u61 :: u62 :: u63 :: u64 :: u65 :: u66 :: u67 :: u68 :: u69 :: u70 :: u71 :: u72 :: u73 :: u74 :: u75 :: u76 :: u77 :: u78 :: u79 :: u80 :: u81 :: u82 :: u83 :: u84 :: u85 :: u86 :: u87 :: u88 :: u89 :: u90 :: u91 :: u92 :: u93 :: u94 :: u95 :: u96 :: u97 :: u98 :: u99 :: u100 :: u101 :: u102 :: u103 :: u104 :: u105 :: u106 :: u107 :: u108 :: u109 :: u110 :: u111 :: u112 :: u113 :: u114 :: u115 :: u116 :: u117 :: u118 :: u119 :: u120 :: u121 :: u122 :: u123 :: u124 :: u125 :: u126 :: u127 :: u128 :: u129 :: u130 :: u131 :: u132 :: u133 :: u134 :: u135 :: u136 :: u137 :: u138 :: u139 :: u140 :: t141 :: t142 :: t143 :: t144 :: t145 :: t146 :: t147 :: t148 :: t149 :: t150 :: t151 :: t152 :: t153 :: t154 :: t155 :: t156 :: t157 :: t158 :: t159 :: t160 :: t161 :: t162 :: t163 :: t164 :: t165 :: t166 :: t167 :: t168 :: t169 :: t170 :: t171 :: t172 :: t173 :: t174 :: t175 :: u176 :: u177 :: u178 :: u179 :: u180 :: u181 :: u182 :: u183 :: u184 :: u185 :: u186 :: u187 :: u188 :: u189 :: u190 :: u191 :: u192 :: u193 :: u194 :: u195 :: u196 :: u197 :: u198 :: u199 :: u200 :: u201 :: u202 :: u203 :: u204 :: u205 :: u206 :: u207 :: u208 :: u209 :: u210 :: u211 :: u212 :: u213 :: u214 :: u215 :: u216 :: u217 :: u218 :: u219 :: u220 :: u221 :: u222 :: u223 :: u224 :: u225 :: u226 :: u227 :: u228 :: u229 :: u230 :: u231 :: u232 :: u233 :: u234 :: u235 :: u236 :: u237 :: u238 :: u239 :: u240 :: u241 :: u242 :: u243 :: u244 :: u245 :: u246 :: u247 :: u248 :: u249 :: u250 :: u251 :: u252 :: u253 :: u254 :: u255 :: u256 :: u257 :: u258 :: u259 :: u260 :: u261 :: u262 :: u263 :: u264 :: u265 :: u266 :: u267 :: u268 :: u269 :: u270 :: u271 :: u272 :: u273 :: u274 :: u275 :: u276 :: u277 :: u278 :: u279 :: u280 :: u281 :: u282 :: u283 :: [])) []) w') : Code.wp Tryd.prog reg37c Q (Act.mk (List.toArray (u0 :: u1 :: u2 :: u3 :: u4 :: u5 :: u6 :: .slice (some ⟨g, 0, none⟩) 64 64 :: u8 :: u9 :: .slice (some ⟨g0, 0, none⟩) 64 c1 :: u11 :: u12 :: u13 :: u14 :: .slice (some ⟨gs, 0, none⟩) 8 cs :: .int .i64 (k : Int) :: .int .u32 (wi sn.e) :: u18 :: u19 :: u20 :: u21 :: u22 :: u23 :: u24 :: u25 :: u26 :: u27 :: u28 :: u29 :: u30 :: u31 :: u32 :: u33 :: u34 :: u35 :: u36 :: u37 :: u38 :: u39 :: u40 :: u41 :: u42 :: u43 :: u44 :: u45 :: u46 :: u47 :: u48 :: u49 :: u50 :: u51 :: u52 :: u53 :: u54 :: u55 :: u56 :: u57 :: u58 :: u59 :: u60 :: u61 :: u62 :: u63 :: u64 :: u65 :: u66 :: u67 :: u68 :: u69 :: u70 :: u71 :: u72 :: u73 :: u74 :: u75 :: u76 :: u77 :: u78 :: u79 :: u80 :: u81 :: u82 :: u83 :: u84 :: u85 :: u86 :: u87 :: u88 :: u89 :: u90 :: u91 :: u92 :: u93 :: u94 :: u95 :: u96 :: u97 :: u98 :: u99 :: u100 :: u101 :: u102 :: u103 :: u104 :: u105 :: u106 :: u107 :: u108 :: u109 :: u110 :: u111 :: u112 :: u113 :: u114 :: u115 :: u116 :: u117 :: u118 :: u119 :: u120 :: u121 :: u122 :: u123 :: u124 :: u125 :: u126 :: u127 :: u128 :: u129 :: u130 :: u131 :: u132 :: u133 :: u134 :: u135 :: u136 :: u137 :: u138 :: u139 :: u140 :: u141 :: u142 :: u143 :: u144 :: u145 :: u146 :: u147 :: u148 :: u149 :: u150 :: u151 :: u152 :: u153 :: u154 :: u155 :: u156 :: u157 :: u158 :: u159 :: u160 :: u161 :: u162 :: u163 :: u164 :: u165 :: u166 :: u167 :: u168 :: u169 :: u170 :: u171 :: u172 :: u173 :: u174 :: u175 :: u176 :: u177 :: u178 :: u179 :: u180 :: u181 :: u182 :: u183 :: u184 :: u185 :: u186 :: u187 :: u188 :: u189 :: u190 :: u191 :: u192 :: u193 :: u194 :: u195 :: u196 :: u197 :: u198 :: u199 :: u200 :: u201 :: u202 :: u203 :: u204 :: u205 :: u206 :: u207 :: u208 :: u209 :: u210 :: u211 :: u212 :: u213 :: u214 :: u215 :: u216 :: u217 :: u218 :: u219 :: u220 :: u221 :: u222 :: u223 :: u224 :: u225 :: u226 :: u227 :: u228 :: u229 :: u230 :: u231 :: u232 :: u233 :: u234 :: u235 :: u236 :: u237 :: u238 :: u239 :: u240 :: u241 :: u242 :: u243 :: u244 :: u245 :: u246 :: u247 :: u248 :: u249 :: u250 :: u251 :: u252 :: u253 :: u254 :: u255 :: u256 :: u257 :: u258 :: u259 :: u260 :: u261 :: u262 :: u263 :: u264 :: u265 :: u266 :: u267 :: u268 :: u269 :: u270 :: u271 :: u272 :: u273 :: u274 :: u275 :: u276 :: u277 :: u278 :: u279 :: u280 :: u281 :: u282 :: u283 :: [])) []) wr := by
  conv => arg 2; whnf
  have rx := wi_xor
  have ra := wi_add
  have rn := wi_and
  have hnot : (4294967295 : Int) - wi sn.e = wi (~~~sn.e) := by
    unfold wi
    have := sn.e.toNat_lt
    rw [UInt32.toNat_not]
    have : UInt32.size = 4294967296 := rfl
    omega
  have hnot2 : IntKind.u32.wrap ((4294967295 : Int) - wi sn.e) = wi (~~~sn.e) := by rw [hnot, IntKind.wrap_u32']; exact Int.emod_eq_of_lt (wi_nonneg _) (wi_lt _)
  have hnot3 : wi (~~~sn.e) % 4294967296 = wi (~~~sn.e) := Int.emod_eq_of_lt (wi_nonneg _) (wi_lt _)
  have k64 : (k : Int) < 64 := by omega
  refine wp_region_class (Later wr) (by kernel_rfl) (by kernel_rfl) ⟨(Keeps.refl _ _).drew⟩ ?_
  go_big_quiet_step ((intro _; rfl))
  go_big_quiet_step ((intro _; rfl))
  refine class_cell (by rfl) 42 (.tmp 142) (by rfl) ⟨gs, 7, none⟩ (by rfl) _ _ V7 Tryd.underlying42 rfl ?_
  simp only [Act.put, List.setIfInBounds_toArray, List.set_cons_zero, List.set_cons_succ]
  go_big_quiet_step ((intro _; rfl))
  go_big_quiet_want
  go_big_quiet_op
  refine ⟨.int .u32 (wi (Sh.rr sn.e 6)), fun V hV => (down_q sn.e 6 V (by decide) (by decide)).mono fun e w' h => ⟨h.1, ⟨by obtain ⟨_, k, rfl⟩ := h; exact hV.out.drewN k⟩⟩, ?_⟩
  go_big_quiet_on
  go_big_quiet_step ((intro _; rfl))
  go_big_quiet_want
  go_big_quiet_op
  refine ⟨.int .u32 (wi (Sh.rr sn.e 11)), fun V hV => (down_q sn.e 11 V (by decide) (by decide)).mono fun e w' h => ⟨h.1, ⟨by obtain ⟨_, k, rfl⟩ := h; exact hV.out.drewN k⟩⟩, ?_⟩
  go_big_quiet_on
  go_big_quiet_step ((intro _; rfl))
  go_big_quiet_step ((intro _; rfl))
  go_big_quiet_want
  go_big_quiet_op
  refine ⟨.int .u32 (wi (Sh.rr sn.e 25)), fun V hV => (down_q sn.e 25 V (by decide) (by decide)).mono fun e w' h => ⟨h.1, ⟨by obtain ⟨_, k, rfl⟩ := h; exact hV.out.drewN k⟩⟩, ?_⟩
  go_big_quiet_on
  go_big_quiet_step ((intro _; rfl))
  go_big_quiet_step ((intro _; rfl))
  go_big_quiet_step ((intro _; rfl))
  go_big_quiet_step ((intro _; rfl))
  go_big_quiet_step ((intro _; rfl))
  refine class_cell (by rfl) 42 (.tmp 155) (by rfl) ⟨gs, 5, none⟩ (by rfl) _ _ V5 Tryd.underlying42 rfl ?_
  simp only [Act.put, List.setIfInBounds_toArray, List.set_cons_zero, List.set_cons_succ]
  go_big_quiet_step ((intro _; rfl))
  go_big_quiet_step ((intro _; rfl))
  go_big_quiet_step ((intro _; rfl))
  go_big_quiet_step ((intro _; rfl))
  go_big_quiet_step ((intro _; rfl))
  refine class_cell (by rfl) 42 (.tmp 161) (by rfl) ⟨gs, 6, none⟩ (by rfl) _ _ V6 Tryd.underlying42 rfl ?_
  simp only [Act.put, List.setIfInBounds_toArray, List.set_cons_zero, List.set_cons_succ]
  go_big_quiet_step ((intro _; rfl))
  go_big_quiet_step ((intro _; rfl))
  go_big_quiet_step ((intro _; rfl))
  go_big_quiet_step ((intro _; rfl))
  go_big_quiet_step ((intro _; rfl))
  go_big_quiet_step ((intro _; rfl))
  refine class_cell (by rfl) 42 (.tmp 168) (by rfl) ⟨g, k, none⟩ (by rfl) _ _ VK Tryd.underlying42 rfl ?_
  simp only [Act.put, List.setIfInBounds_toArray, List.set_cons_zero, List.set_cons_succ]
  go_big_quiet_step ((intro _; rfl))
  go_big_quiet_step ((intro _; rfl))
  go_big_quiet_step ((intro _; rfl))
  go_big_quiet_step ((intro _; rfl))
  refine class_cell (by rfl) 42 (.tmp 173) (by rfl) ⟨g0, k, none⟩ (by rfl) _ _ VW Tryd.underlying42 rfl ?_
  simp only [Act.put, List.setIfInBounds_toArray, List.set_cons_zero, List.set_cons_succ]
  go_big_quiet_step ((intro _; rfl))
  go_big_quiet_step ((intro _; rfl))
  refine wpQuiet_nil ?_
  intro w6 k6
  exact h w6 k6 _ _ _ _ _ _ _ _ _ _ _ _ _ _ _ _ _ _ _ _ _ _ _ _ _ _ _ _ _ _ _ _ _ _ _

noncomputable def reg38c : Code := ((Tryd.f21.body.bind (findReg 38)).getD .skip)
set_option maxRecDepth 1000000 in
set_option maxHeartbeats 4000000 in
theorem reg38 {u0 u1 u2 u3 u4 u5 u6 u7 u8 u9 u10 u11 u12 u13 u14 u16 u17 u19 u20 u21 u22 u23 u24 u25 u26 u27 u28 u29 u30 u31 u32 u33 u34 u35 u36 u37 u38 u39 u40 u41 u42 u43 u44 u45 u46 u47 u48 u49 u50 u51 u52 u53 u54 u55 u56 u57 u58 u59 u60 u61 u62 u63 u64 u65 u66 u67 u68 u69 u70 u71 u72 u73 u74 u75 u76 u77 u78 u79 u80 u81 u82 u83 u84 u85 u86 u87 u88 u89 u90 u91 u92 u93 u94 u95 u96 u97 u98 u99 u100 u101 u102 u103 u104 u105 u106 u107 u108 u109 u110 u111 u112 u113 u114 u115 u116 u117 u118 u119 u120 u121 u122 u123 u124 u125 u126 u127 u128 u129 u130 u131 u132 u133 u134 u135 u136 u137 u138 u139 u140 u141 u142 u143 u144 u145 u146 u147 u148 u149 u150 u151 u152 u153 u154 u155 u156 u157 u158 u159 u160 u161 u162 u163 u164 u165 u166 u167 u168 u169 u170 u171 u172 u173 u174 u175 u176 u177 u178 u179 u180 u181 u182 u183 u184 u185 u186 u187 u188 u189 u190 u191 u192 u193 u194 u195 u196 u197 u198 u199 u200 u201 u202 u203 u204 u205 u206 u207 u208 u209 u210 u211 u212 u213 u214 u215 u216 u217 u218 u219 u220 u221 u222 u223 u224 u225 u226 u227 u228 u229 u230 u231 u232 u233 u234 u235 u236 u237 u238 u239 u240 u241 u242 u243 u244 u245 u246 u247 u248 u249 u250 u251 u252 u253 u254 u255 u256 u257 u258 u259 u260 u261 u262 u263 u264 u265 u266 u267 u268 u269 u270 u271 u272 u273 u274 u275 u276 u277 u278 u279 u280 u281 u282 u283 : Value} (gs cs : Nat) (sn : Sh.St) (wr : World) (Q : Exit → Act → World → Prop) (V1 : ∀ V, Later wr V → V.cell? ⟨gs, 1, none⟩ = some (.int .u32 (wi sn.b))) (V2 : ∀ V, Later wr V → V.cell? ⟨gs, 2, none⟩ = some (.int .u32 (wi sn.c)))
    (h : ∀  w', Later wr w' → ∀ t176 t177 t178 t179 t180 t181 t182 t183 t184 t185 t186 t187 t188 t189 t190 t191 t192 t193 t194 t195 t196 t197 t198 t199 t200 t201 t202 t203 : Value, Q .normal (Act.mk (List.toArray (u0 :: u1 :: u2 :: u3 :: u4 :: u5 :: u6 :: u7 :: u8 :: u9 :: u10 :: u11 :: u12 :: u13 :: u14 :: .slice (some ⟨gs, 0, none⟩) 8 cs :: u16 :: u17 :: .int .u32 (wi sn.a) :: u19 :: .int .u32 (wi (Sh.uu sn)) :: u21 :: u22 :: u23 :: u24 :: u25 :: u26 :: u27 :: u28 :: u29 :: u30 :: u31 :: u32 :: u33 :: u34 :: u35 :: u36 :: u37 :: u38 :: u39 :: u40 :: u41 :: u42 :: u43 :: u44 :: u45 :: u46 :: u47 :: u48 :: u49 :: u50 :: u51 :: u52 :: u53 :: u54 :: u55 :: u56 :: u57 :: u58 :: u59 :: u60 :: u61 :: u62 :: u63 :: u64 :: u65 :: u66 :: u67 :: u68 :: u69 :: u70 :: u71 :: u72 :: u73 :: u74 :: u75 :: u76 :: u77 :: u78 :: u79 :: u80 :: u81 :: u82 :: u83 :: u84 :: u85 :: u86 :: u87 :: u88 :: u89 :: u90 :: u91 :: u92 :: u93 :: u94 :: u95 :: u96 :: u97 :: u98 :: u99 :: u100 :: u101 :: u102 :: u103 :: u104 :: u105 :: u106 :: u107 :: u108 :: u109 :: u110 :: u111 :: u112 :: u113 :: u114 :: u115 :: u116 :: u117 :: u118 :: u119 :: u120 :: u121 :: u122 :: u123 :: u124 :: u125 :: u126 :: u127 :: u128 :: u129 :: u130 :: u131 :: u132 :: u133 :: u134 :: u135 :: u136 :: u137 :: u138 :: u139 :: u140 :: u141 :: u142 :: u143 :: u144 :: u145 :: u146 :: u147 :: u148 :: u149 :: u150 :: u151 :: u152 :: u153 :: u154 :: u155 :: u156 :: u157 :: u158 :: u159 :: u160 :: u161 :: u162 :: u163 :: u164 :: u165 :: u166 :: u167 :: u168 :: u169 :: u170 :: u171 :: u172 :: u173 :: u174 :: u175 :: t176 :: t177 :: t178 :: t179 :: t180 :: t181 :: t182 :: t183 :: t184 :: t185 :: t186 :: t187 :: t188 :: t189 :: t190 :: t191 :: t192 :: t193 :: t194 :: t195 :: t196 :: t197 :: t198 :: t199 :: t200 :: t201 :: t202 :: t203 :: u204 :: u205 :: u206 :: u207 :: u208 :: u209 :: u210 :: u211 :: u212 :: u213 :: u214 :: u215 :: u216 :: u217 :: u218 :: u219 :: u220 :: u221 :: u222 :: u223 :: u224 :: u225 :: u226 :: u227 :: u228 :: u229 :: u230 :: u231 :: u232 :: u233 :: u234 :: u235 :: u236 :: u237 :: u238 :: u239 :: u240 :: u241 :: u242 :: u243 :: u244 :: u245 :: u246 :: u247 :: u248 :: u249 :: u250 :: u251 :: u252 :: u253 :: u254 :: u255 :: u256 :: u257 :: u258 :: u259 :: u260 :: u261 :: u262 :: u263 :: u264 :: u265 :: u266 :: u267 :: u268 :: u269 :: u270 :: u271 :: u272 :: u273 :: u274 :: u275 :: u276 :: u277 :: u278 :: u279 :: u280 :: u281 :: u282 :: u283 :: [])) []) w') : Code.wp Tryd.prog reg38c Q (Act.mk (List.toArray (u0 :: u1 :: u2 :: u3 :: u4 :: u5 :: u6 :: u7 :: u8 :: u9 :: u10 :: u11 :: u12 :: u13 :: u14 :: .slice (some ⟨gs, 0, none⟩) 8 cs :: u16 :: u17 :: .int .u32 (wi sn.a) :: u19 :: u20 :: u21 :: u22 :: u23 :: u24 :: u25 :: u26 :: u27 :: u28 :: u29 :: u30 :: u31 :: u32 :: u33 :: u34 :: u35 :: u36 :: u37 :: u38 :: u39 :: u40 :: u41 :: u42 :: u43 :: u44 :: u45 :: u46 :: u47 :: u48 :: u49 :: u50 :: u51 :: u52 :: u53 :: u54 :: u55 :: u56 :: u57 :: u58 :: u59 :: u60 :: u61 :: u62 :: u63 :: u64 :: u65 :: u66 :: u67 :: u68 :: u69 :: u70 :: u71 :: u72 :: u73 :: u74 :: u75 :: u76 :: u77 :: u78 :: u79 :: u80 :: u81 :: u82 :: u83 :: u84 :: u85 :: u86 :: u87 :: u88 :: u89 :: u90 :: u91 :: u92 :: u93 :: u94 :: u95 :: u96 :: u97 :: u98 :: u99 :: u100 :: u101 :: u102 :: u103 :: u104 :: u105 :: u106 :: u107 :: u108 :: u109 :: u110 :: u111 :: u112 :: u113 :: u114 :: u115 :: u116 :: u117 :: u118 :: u119 :: u120 :: u121 :: u122 :: u123 :: u124 :: u125 :: u126 :: u127 :: u128 :: u129 :: u130 :: u131 :: u132 :: u133 :: u134 :: u135 :: u136 :: u137 :: u138 :: u139 :: u140 :: u141 :: u142 :: u143 :: u144 :: u145 :: u146 :: u147 :: u148 :: u149 :: u150 :: u151 :: u152 :: u153 :: u154 :: u155 :: u156 :: u157 :: u158 :: u159 :: u160 :: u161 :: u162 :: u163 :: u164 :: u165 :: u166 :: u167 :: u168 :: u169 :: u170 :: u171 :: u172 :: u173 :: u174 :: u175 :: u176 :: u177 :: u178 :: u179 :: u180 :: u181 :: u182 :: u183 :: u184 :: u185 :: u186 :: u187 :: u188 :: u189 :: u190 :: u191 :: u192 :: u193 :: u194 :: u195 :: u196 :: u197 :: u198 :: u199 :: u200 :: u201 :: u202 :: u203 :: u204 :: u205 :: u206 :: u207 :: u208 :: u209 :: u210 :: u211 :: u212 :: u213 :: u214 :: u215 :: u216 :: u217 :: u218 :: u219 :: u220 :: u221 :: u222 :: u223 :: u224 :: u225 :: u226 :: u227 :: u228 :: u229 :: u230 :: u231 :: u232 :: u233 :: u234 :: u235 :: u236 :: u237 :: u238 :: u239 :: u240 :: u241 :: u242 :: u243 :: u244 :: u245 :: u246 :: u247 :: u248 :: u249 :: u250 :: u251 :: u252 :: u253 :: u254 :: u255 :: u256 :: u257 :: u258 :: u259 :: u260 :: u261 :: u262 :: u263 :: u264 :: u265 :: u266 :: u267 :: u268 :: u269 :: u270 :: u271 :: u272 :: u273 :: u274 :: u275 :: u276 :: u277 :: u278 :: u279 :: u280 :: u281 :: u282 :: u283 :: [])) []) wr := by
  conv => arg 2; whnf
  have rx := wi_xor
  have ra := wi_add
  have rn := wi_and
  refine wp_region_class (Later wr) (by kernel_rfl) (by kernel_rfl) ⟨(Keeps.refl _ _).drew⟩ ?_
  go_big_quiet_step ((intro _; rfl))
  go_big_quiet_want
  go_big_quiet_op
  refine ⟨.int .u32 (wi (Sh.rr sn.a 2)), fun V hV => (down_q sn.a 2 V (by decide) (by decide)).mono fun e w' h => ⟨h.1, ⟨by obtain ⟨_, k, rfl⟩ := h; exact hV.out.drewN k⟩⟩, ?_⟩
  go_big_quiet_on
  go_big_quiet_step ((intro _; rfl))
  go_big_quiet_want
  go_big_quiet_op
  refine ⟨.int .u32 (wi (Sh.rr sn.a 13)), fun V hV => (down_q sn.a 13 V (by decide) (by decide)).mono fun e w' h => ⟨h.1, ⟨by obtain ⟨_, k, rfl⟩ := h; exact hV.out.drewN k⟩⟩, ?_⟩
  go_big_quiet_on
  go_big_quiet_step ((intro _; rfl))
  go_big_quiet_step ((intro _; rfl))
  go_big_quiet_want
  go_big_quiet_op
  refine ⟨.int .u32 (wi (Sh.rr sn.a 22)), fun V hV => (down_q sn.a 22 V (by decide) (by decide)).mono fun e w' h => ⟨h.1, ⟨by obtain ⟨_, k, rfl⟩ := h; exact hV.out.drewN k⟩⟩, ?_⟩
  go_big_quiet_on
  go_big_quiet_step ((intro _; rfl))
  go_big_quiet_step ((intro _; rfl))
  go_big_quiet_step ((intro _; rfl))
  go_big_quiet_step ((intro _; rfl))
  refine class_cell (by rfl) 42 (.tmp 186) (by rfl) ⟨gs, 1, none⟩ (by rfl) _ _ V1 Tryd.underlying42 rfl ?_
  simp only [Act.put, List.setIfInBounds_toArray, List.set_cons_zero, List.set_cons_succ]
  go_big_quiet_step ((intro _; rfl))
  go_big_quiet_step ((intro _; rfl))
  go_big_quiet_step ((intro _; rfl))
  go_big_quiet_step ((intro _; rfl))
  refine class_cell (by rfl) 42 (.tmp 191) (by rfl) ⟨gs, 2, none⟩ (by rfl) _ _ V2 Tryd.underlying42 rfl ?_
  simp only [Act.put, List.setIfInBounds_toArray, List.set_cons_zero, List.set_cons_succ]
  go_big_quiet_step ((intro _; rfl))
  go_big_quiet_step ((intro _; rfl))
  go_big_quiet_step ((intro _; rfl))
  go_big_quiet_step ((intro _; rfl))
  refine class_cell (by rfl) 42 (.tmp 196) (by rfl) ⟨gs, 1, none⟩ (by rfl) _ _ V1 Tryd.underlying42 rfl ?_
  simp only [Act.put, List.setIfInBounds_toArray, List.set_cons_zero, List.set_cons_succ]
  go_big_quiet_step ((intro _; rfl))
  go_big_quiet_step ((intro _; rfl))
  refine class_cell (by rfl) 42 (.tmp 199) (by rfl) ⟨gs, 2, none⟩ (by rfl) _ _ V2 Tryd.underlying42 rfl ?_
  simp only [Act.put, List.setIfInBounds_toArray, List.set_cons_zero, List.set_cons_succ]
  go_big_quiet_step ((intro _; rfl))
  go_big_quiet_step ((intro _; rfl))
  go_big_quiet_step ((intro _; rfl))
  go_big_quiet_step ((intro _; rfl))
  refine wpQuiet_nil ?_
  intro w6 k6
  exact h w6 k6 _ _ _ _ _ _ _ _ _ _ _ _ _ _ _ _ _ _ _ _ _ _ _ _ _ _ _ _

noncomputable def reg39c : Code := ((Tryd.f21.body.bind (findReg 39)).getD .skip)
set_option maxRecDepth 1000000 in
set_option maxHeartbeats 4000000 in
theorem reg39 {u0 u1 u2 u3 u4 u5 u6 u7 u8 u9 u10 u11 u12 u13 u14 u16 u21 u22 u23 u24 u25 u26 u27 u28 u29 u30 u31 u32 u33 u34 u35 u36 u37 u38 u39 u40 u41 u42 u43 u44 u45 u46 u47 u48 u49 u50 u51 u52 u53 u54 u55 u56 u57 u58 u59 u60 u61 u62 u63 u64 u65 u66 u67 u68 u69 u70 u71 u72 u73 u74 u75 u76 u77 u78 u79 u80 u81 u82 u83 u84 u85 u86 u87 u88 u89 u90 u91 u92 u93 u94 u95 u96 u97 u98 u99 u100 u101 u102 u103 u104 u105 u106 u107 u108 u109 u110 u111 u112 u113 u114 u115 u116 u117 u118 u119 u120 u121 u122 u123 u124 u125 u126 u127 u128 u129 u130 u131 u132 u133 u134 u135 u136 u137 u138 u139 u140 u141 u142 u143 u144 u145 u146 u147 u148 u149 u150 u151 u152 u153 u154 u155 u156 u157 u158 u159 u160 u161 u162 u163 u164 u165 u166 u167 u168 u169 u170 u171 u172 u173 u174 u175 u176 u177 u178 u179 u180 u181 u182 u183 u184 u185 u186 u187 u188 u189 u190 u191 u192 u193 u194 u195 u196 u197 u198 u199 u200 u201 u202 u203 u204 u205 u206 u207 u208 u209 u210 u211 u212 u213 u214 u215 u216 u217 u218 u219 u220 u221 u222 u223 u224 u225 u226 u227 u228 u229 u230 u231 u232 u233 u234 u235 u236 u237 u238 u239 u240 u241 u242 u243 u244 u245 u246 u247 u248 u249 u250 u251 u252 u253 u254 u255 u256 u257 u258 u259 u260 u261 u262 u263 u264 u265 u266 u267 u268 u269 u270 u271 u272 u273 u274 u275 u276 u277 u278 u279 u280 u281 u282 u283 : Value} (gs cs : Nat) (sn : Sh.St) (x y : UInt32) (wr : World) (Q : Exit → Act → World → Prop) (V1 : ∀ V, Later wr V → V.cell? ⟨gs, 1, none⟩ = some (.int .u32 (wi sn.b))) (V2 : ∀ V, Later wr V → V.cell? ⟨gs, 2, none⟩ = some (.int .u32 (wi sn.c))) (V3 : ∀ V, Later wr V → V.cell? ⟨gs, 3, none⟩ = some (.int .u32 (wi sn.d))) (V5 : ∀ V, Later wr V → V.cell? ⟨gs, 5, none⟩ = some (.int .u32 (wi sn.f))) (V6 : ∀ V, Later wr V → V.cell? ⟨gs, 6, none⟩ = some (.int .u32 (wi sn.g)))
    (h : ∀ gn w', (Later wr w' ∧ wr.heap.size ≤ gn ∧ Src w' (some ⟨gn, 0, none⟩) (wvs (Sh.step sn x y).list)) → ∀ t204 t205 t206 t207 t208 t209 t210 t211 t212 t213 t214 t215 t216 t217 t218 t219 t220 t221 t222 t223 t224 t225 t226 : Value, Q .normal (Act.mk (List.toArray (u0 :: u1 :: u2 :: u3 :: u4 :: u5 :: u6 :: u7 :: u8 :: u9 :: u10 :: u11 :: u12 :: u13 :: u14 :: .slice (some ⟨gn, 0, none⟩) 8 8 :: u16 :: .int .u32 (wi sn.e) :: .int .u32 (wi sn.a) :: .int .u32 (wi (Sh.tt sn x y)) :: .int .u32 (wi (Sh.uu sn)) :: u21 :: u22 :: u23 :: u24 :: u25 :: u26 :: u27 :: u28 :: u29 :: u30 :: u31 :: u32 :: u33 :: u34 :: u35 :: u36 :: u37 :: u38 :: u39 :: u40 :: u41 :: u42 :: u43 :: u44 :: u45 :: u46 :: u47 :: u48 :: u49 :: u50 :: u51 :: u52 :: u53 :: u54 :: u55 :: u56 :: u57 :: u58 :: u59 :: u60 :: u61 :: u62 :: u63 :: u64 :: u65 :: u66 :: u67 :: u68 :: u69 :: u70 :: u71 :: u72 :: u73 :: u74 :: u75 :: u76 :: u77 :: u78 :: u79 :: u80 :: u81 :: u82 :: u83 :: u84 :: u85 :: u86 :: u87 :: u88 :: u89 :: u90 :: u91 :: u92 :: u93 :: u94 :: u95 :: u96 :: u97 :: u98 :: u99 :: u100 :: u101 :: u102 :: u103 :: u104 :: u105 :: u106 :: u107 :: u108 :: u109 :: u110 :: u111 :: u112 :: u113 :: u114 :: u115 :: u116 :: u117 :: u118 :: u119 :: u120 :: u121 :: u122 :: u123 :: u124 :: u125 :: u126 :: u127 :: u128 :: u129 :: u130 :: u131 :: u132 :: u133 :: u134 :: u135 :: u136 :: u137 :: u138 :: u139 :: u140 :: u141 :: u142 :: u143 :: u144 :: u145 :: u146 :: u147 :: u148 :: u149 :: u150 :: u151 :: u152 :: u153 :: u154 :: u155 :: u156 :: u157 :: u158 :: u159 :: u160 :: u161 :: u162 :: u163 :: u164 :: u165 :: u166 :: u167 :: u168 :: u169 :: u170 :: u171 :: u172 :: u173 :: u174 :: u175 :: u176 :: u177 :: u178 :: u179 :: u180 :: u181 :: u182 :: u183 :: u184 :: u185 :: u186 :: u187 :: u188 :: u189 :: u190 :: u191 :: u192 :: u193 :: u194 :: u195 :: u196 :: u197 :: u198 :: u199 :: u200 :: u201 :: u202 :: u203 :: t204 :: t205 :: t206 :: t207 :: t208 :: t209 :: t210 :: t211 :: t212 :: t213 :: t214 :: t215 :: t216 :: t217 :: t218 :: t219 :: t220 :: t221 :: t222 :: t223 :: t224 :: t225 :: t226 :: u227 :: u228 :: u229 :: u230 :: u231 :: u232 :: u233 :: u234 :: u235 :: u236 :: u237 :: u238 :: u239 :: u240 :: u241 :: u242 :: u243 :: u244 :: u245 :: u246 :: u247 :: u248 :: u249 :: u250 :: u251 :: u252 :: u253 :: u254 :: u255 :: u256 :: u257 :: u258 :: u259 :: u260 :: u261 :: u262 :: u263 :: u264 :: u265 :: u266 :: u267 :: u268 :: u269 :: u270 :: u271 :: u272 :: u273 :: u274 :: u275 :: u276 :: u277 :: u278 :: u279 :: u280 :: u281 :: u282 :: u283 :: [])) []) w') : Code.wp Tryd.prog reg39c Q (Act.mk (List.toArray (u0 :: u1 :: u2 :: u3 :: u4 :: u5 :: u6 :: u7 :: u8 :: u9 :: u10 :: u11 :: u12 :: u13 :: u14 :: .slice (some ⟨gs, 0, none⟩) 8 cs :: u16 :: .int .u32 (wi sn.e) :: .int .u32 (wi sn.a) :: .int .u32 (wi (Sh.tt sn x y)) :: .int .u32 (wi (Sh.uu sn)) :: u21 :: u22 :: u23 :: u24 :: u25 :: u26 :: u27 :: u28 :: u29 :: u30 :: u31 :: u32 :: u33 :: u34 :: u35 :: u36 :: u37 :: u38 :: u39 :: u40 :: u41 :: u42 :: u43 :: u44 :: u45 :: u46 :: u47 :: u48 :: u49 :: u50 :: u51 :: u52 :: u53 :: u54 :: u55 :: u56 :: u57 :: u58 :: u59 :: u60 :: u61 :: u62 :: u63 :: u64 :: u65 :: u66 :: u67 :: u68 :: u69 :: u70 :: u71 :: u72 :: u73 :: u74 :: u75 :: u76 :: u77 :: u78 :: u79 :: u80 :: u81 :: u82 :: u83 :: u84 :: u85 :: u86 :: u87 :: u88 :: u89 :: u90 :: u91 :: u92 :: u93 :: u94 :: u95 :: u96 :: u97 :: u98 :: u99 :: u100 :: u101 :: u102 :: u103 :: u104 :: u105 :: u106 :: u107 :: u108 :: u109 :: u110 :: u111 :: u112 :: u113 :: u114 :: u115 :: u116 :: u117 :: u118 :: u119 :: u120 :: u121 :: u122 :: u123 :: u124 :: u125 :: u126 :: u127 :: u128 :: u129 :: u130 :: u131 :: u132 :: u133 :: u134 :: u135 :: u136 :: u137 :: u138 :: u139 :: u140 :: u141 :: u142 :: u143 :: u144 :: u145 :: u146 :: u147 :: u148 :: u149 :: u150 :: u151 :: u152 :: u153 :: u154 :: u155 :: u156 :: u157 :: u158 :: u159 :: u160 :: u161 :: u162 :: u163 :: u164 :: u165 :: u166 :: u167 :: u168 :: u169 :: u170 :: u171 :: u172 :: u173 :: u174 :: u175 :: u176 :: u177 :: u178 :: u179 :: u180 :: u181 :: u182 :: u183 :: u184 :: u185 :: u186 :: u187 :: u188 :: u189 :: u190 :: u191 :: u192 :: u193 :: u194 :: u195 :: u196 :: u197 :: u198 :: u199 :: u200 :: u201 :: u202 :: u203 :: u204 :: u205 :: u206 :: u207 :: u208 :: u209 :: u210 :: u211 :: u212 :: u213 :: u214 :: u215 :: u216 :: u217 :: u218 :: u219 :: u220 :: u221 :: u222 :: u223 :: u224 :: u225 :: u226 :: u227 :: u228 :: u229 :: u230 :: u231 :: u232 :: u233 :: u234 :: u235 :: u236 :: u237 :: u238 :: u239 :: u240 :: u241 :: u242 :: u243 :: u244 :: u245 :: u246 :: u247 :: u248 :: u249 :: u250 :: u251 :: u252 :: u253 :: u254 :: u255 :: u256 :: u257 :: u258 :: u259 :: u260 :: u261 :: u262 :: u263 :: u264 :: u265 :: u266 :: u267 :: u268 :: u269 :: u270 :: u271 :: u272 :: u273 :: u274 :: u275 :: u276 :: u277 :: u278 :: u279 :: u280 :: u281 :: u282 :: u283 :: [])) []) wr := by
  conv => arg 2; whnf
  have ra := wi_add
  refine wp_region_phase 22 (Later wr) (by kernel_rfl) (by kernel_rfl) ⟨(Keeps.refl _ _).drew⟩ ?_
  simp only [List.take_succ_cons, List.take_zero, List.drop_succ_cons, List.drop_zero]
  go_big_quiet_step ((intro _; rfl))
  go_big_quiet_step ((intro _; rfl))
  go_big_quiet_step ((intro _; rfl))
  go_big_quiet_step ((intro _; rfl))
  go_big_quiet_step ((intro _; rfl))
  go_big_quiet_step ((intro _; rfl))
  refine class_cell (by rfl) 42 (.tmp 209) (by rfl) ⟨gs, 1, none⟩ (by rfl) _ _ V1 Tryd.underlying42 rfl ?_
  simp only [Act.put, List.setIfInBounds_toArray, List.set_cons_zero, List.set_cons_succ]
  go_big_quiet_step ((intro _; rfl))
  go_big_quiet_step ((intro _; rfl))
  refine class_cell (by rfl) 42 (.tmp 212) (by rfl) ⟨gs, 2, none⟩ (by rfl) _ _ V2 Tryd.underlying42 rfl ?_
  simp only [Act.put, List.setIfInBounds_toArray, List.set_cons_zero, List.set_cons_succ]
  go_big_quiet_step ((intro _; rfl))
  go_big_quiet_step ((intro _; rfl))
  refine class_cell (by rfl) 42 (.tmp 215) (by rfl) ⟨gs, 3, none⟩ (by rfl) _ _ V3 Tryd.underlying42 rfl ?_
  simp only [Act.put, List.setIfInBounds_toArray, List.set_cons_zero, List.set_cons_succ]
  go_big_quiet_step ((intro _; rfl))
  go_big_quiet_step ((intro _; rfl))
  go_big_quiet_step ((intro _; rfl))
  go_big_quiet_step ((intro _; rfl))
  go_big_quiet_step ((intro _; rfl))
  refine class_cell (by rfl) 42 (.tmp 221) (by rfl) ⟨gs, 5, none⟩ (by rfl) _ _ V5 Tryd.underlying42 rfl ?_
  simp only [Act.put, List.setIfInBounds_toArray, List.set_cons_zero, List.set_cons_succ]
  go_big_quiet_step ((intro _; rfl))
  go_big_quiet_step ((intro _; rfl))
  refine class_cell (by rfl) 42 (.tmp 224) (by rfl) ⟨gs, 6, none⟩ (by rfl) _ _ V6 Tryd.underlying42 rfl ?_
  simp only [Act.put, List.setIfInBounds_toArray, List.set_cons_zero, List.set_cons_succ]
  refine wpQuiet_nil ?_
  intro w6 k6
  have hnew : Src (w6.alloc (.cells #[.int .u32 (wi (Sh.tt sn x y + Sh.uu sn)), .int .u32 (wi sn.a), .int .u32 (wi sn.b), .int .u32 (wi sn.c), .int .u32 (wi (sn.d + Sh.tt sn x y)), .int .u32 (wi sn.e), .int .u32 (wi sn.f), .int .u32 (wi sn.g)] 42)) (some ⟨w6.heap.size, 0, none⟩) (wvs (Sh.step sn x y).list) := src_new (heap_alloc_new w6 _)
  have hk : Later wr (w6.alloc (.cells #[.int .u32 (wi (Sh.tt sn x y + Sh.uu sn)), .int .u32 (wi sn.a), .int .u32 (wi sn.b), .int .u32 (wi sn.c), .int .u32 (wi (sn.d + Sh.tt sn x y)), .int .u32 (wi sn.e), .int .u32 (wi sn.f), .int .u32 (wi sn.g)] 42)) := ⟨k6.out.alloc _⟩
  have hfin := h w6.heap.size _ ⟨hk, k6.out.size, hnew⟩
  clear h hnew hk
  go_wp2
  exact hfin _ _ _ _ _ _ _ _ _ _ _ _ _ _ _ _ _ _ _ _ _ _ _

end Go.Proofs.YtgbajlmcoghofaaDoor
namespace Go.Proofs.YtgbajlmcoghofaaDoor
open Go.RowKit Go.BigFrame
set_option linter.unusedVariables false

def headReg : Code → Option Nat
  | .region k _ _ => some k
  | .seq a _ => headReg a
  | .block _ c => headReg c
  | .scope c => headReg c
  | .loop c => headReg c
  | _ => none
/-- A loop, by its first region's number. -/
def findLoop (n : Nat) : Code → Option Code
  | .loop c => if headReg c == some n then some (.loop c) else findLoop n c
  | .seq a b => match findLoop n a with
    | some c => some c
    | none => findLoop n b
  | .block _ c => findLoop n c
  | .scope c => findLoop n c
  | .cond _ a b => match findLoop n a with
    | some c => some c
    | none => findLoop n b
  | _ => none

noncomputable def loop7c : Code := ((Tryd.f21.body.bind (findLoop 33)).getD .skip)
set_option maxRecDepth 1000000 in
set_option maxHeartbeats 8000000 in
theorem loop7 {u0 u1 u2 u3 u4 u5 u6 u8 u9 u11 u12 u13 u14 u17 u18 u19 u20 u21 u22 u23 u24 u25 u26 u27 u28 u29 u30 u31 u32 u33 u34 u35 u36 u37 u38 u39 u40 u41 u42 u43 u44 u45 u46 u47 u48 u49 u50 u51 u52 u53 u54 u55 u56 u57 u58 u59 u60 u61 u62 u63 u64 u65 u66 u67 u68 u69 u70 u71 u72 u73 u74 u75 u76 u77 u78 u79 u80 u81 u82 u83 u84 u85 u86 u87 u88 u89 u90 u91 u92 u93 u94 u95 u96 u97 u98 u99 u100 u101 u102 u103 u104 u105 u106 u107 u108 u109 u110 u111 u112 u113 u114 u115 u116 u117 u118 u119 u120 u121 u122 u123 u124 u125 u126 u127 u128 u129 u130 u131 u132 u133 u134 u135 u136 u137 u138 u139 u140 u141 u142 u143 u144 u145 u146 u147 u148 u149 u150 u151 u152 u153 u154 u155 u156 u157 u158 u159 u160 u161 u162 u163 u164 u165 u166 u167 u168 u169 u170 u171 u172 u173 u174 u175 u176 u177 u178 u179 u180 u181 u182 u183 u184 u185 u186 u187 u188 u189 u190 u191 u192 u193 u194 u195 u196 u197 u198 u199 u200 u201 u202 u203 u204 u205 u206 u207 u208 u209 u210 u211 u212 u213 u214 u215 u216 u217 u218 u219 u220 u221 u222 u223 u224 u225 u226 u227 u228 u229 u230 u231 u232 u233 u234 u235 u236 u237 u238 u239 u240 u241 u242 u243 u244 u245 u246 u247 u248 u249 u250 u251 u252 u253 u254 u255 u256 u257 u258 u259 u260 u261 u262 u263 u264 u265 u266 u267 u268 u269 u270 u271 u272 u273 u274 u275 u276 u277 u278 u279 u280 u281 u282 u283 : Value} (gv cv g g0 c1 base : Nat) (SS : Sh.St) (blk : List UInt8) (wc : World) (Q : Exit → Act → World → Prop) (hbv : base ≤ gv) (hbw : base ≤ wc.heap.size) (hvs : Src wc (some ⟨gv, 0, none⟩) (wvs SS.list)) (hRC : ∀ V, Later wc V → ∀ k x, IsRoot k x → V.cell? ⟨g, k, none⟩ = some (.int .u32 (wi x))) (hWC : ∀ V, Later wc V → ∀ k y, IsWord blk k y → V.cell? ⟨g0, k, none⟩ = some (.int .u32 (wi y)))
    (hexit : ∀ gs cs w', (Later wc w' ∧ base ≤ gs ∧ Src w' (some ⟨gs, 0, none⟩) (wvs (after SS blk 64).list)) → ∀ t16 t17 t18 t19 t20 t131 t132 t133 t134 t135 t136 t137 t138 t139 t140 t141 t142 t143 t144 t145 t146 t147 t148 t149 t150 t151 t152 t153 t154 t155 t156 t157 t158 t159 t160 t161 t162 t163 t164 t165 t166 t167 t168 t169 t170 t171 t172 t173 t174 t175 t176 t177 t178 t179 t180 t181 t182 t183 t184 t185 t186 t187 t188 t189 t190 t191 t192 t193 t194 t195 t196 t197 t198 t199 t200 t201 t202 t203 t204 t205 t206 t207 t208 t209 t210 t211 t212 t213 t214 t215 t216 t217 t218 t219 t220 t221 t222 t223 t224 t225 t226 : Value, Q (.exit 12) (Act.mk (List.toArray (u0 :: u1 :: u2 :: u3 :: u4 :: u5 :: u6 :: .slice (some ⟨g, 0, none⟩) 64 64 :: u8 :: u9 :: .slice (some ⟨g0, 0, none⟩) 64 c1 :: u11 :: u12 :: u13 :: u14 :: .slice (some ⟨gs, 0, none⟩) 8 cs :: t16 :: t17 :: t18 :: t19 :: t20 :: u21 :: u22 :: u23 :: u24 :: u25 :: u26 :: u27 :: u28 :: u29 :: u30 :: u31 :: u32 :: u33 :: u34 :: u35 :: u36 :: u37 :: u38 :: u39 :: u40 :: u41 :: u42 :: u43 :: u44 :: u45 :: u46 :: u47 :: u48 :: u49 :: u50 :: u51 :: u52 :: u53 :: u54 :: u55 :: u56 :: u57 :: u58 :: u59 :: u60 :: u61 :: u62 :: u63 :: u64 :: u65 :: u66 :: u67 :: u68 :: u69 :: u70 :: u71 :: u72 :: u73 :: u74 :: u75 :: u76 :: u77 :: u78 :: u79 :: u80 :: u81 :: u82 :: u83 :: u84 :: u85 :: u86 :: u87 :: u88 :: u89 :: u90 :: u91 :: u92 :: u93 :: u94 :: u95 :: u96 :: u97 :: u98 :: u99 :: u100 :: u101 :: u102 :: u103 :: u104 :: u105 :: u106 :: u107 :: u108 :: u109 :: u110 :: u111 :: u112 :: u113 :: u114 :: u115 :: u116 :: u117 :: u118 :: u119 :: u120 :: u121 :: u122 :: u123 :: u124 :: u125 :: u126 :: u127 :: u128 :: u129 :: u130 :: t131 :: t132 :: t133 :: t134 :: t135 :: t136 :: t137 :: t138 :: t139 :: t140 :: t141 :: t142 :: t143 :: t144 :: t145 :: t146 :: t147 :: t148 :: t149 :: t150 :: t151 :: t152 :: t153 :: t154 :: t155 :: t156 :: t157 :: t158 :: t159 :: t160 :: t161 :: t162 :: t163 :: t164 :: t165 :: t166 :: t167 :: t168 :: t169 :: t170 :: t171 :: t172 :: t173 :: t174 :: t175 :: t176 :: t177 :: t178 :: t179 :: t180 :: t181 :: t182 :: t183 :: t184 :: t185 :: t186 :: t187 :: t188 :: t189 :: t190 :: t191 :: t192 :: t193 :: t194 :: t195 :: t196 :: t197 :: t198 :: t199 :: t200 :: t201 :: t202 :: t203 :: t204 :: t205 :: t206 :: t207 :: t208 :: t209 :: t210 :: t211 :: t212 :: t213 :: t214 :: t215 :: t216 :: t217 :: t218 :: t219 :: t220 :: t221 :: t222 :: t223 :: t224 :: t225 :: t226 :: u227 :: u228 :: u229 :: u230 :: u231 :: u232 :: u233 :: u234 :: u235 :: u236 :: u237 :: u238 :: u239 :: u240 :: u241 :: u242 :: u243 :: u244 :: u245 :: u246 :: u247 :: u248 :: u249 :: u250 :: u251 :: u252 :: u253 :: u254 :: u255 :: u256 :: u257 :: u258 :: u259 :: u260 :: u261 :: u262 :: u263 :: u264 :: u265 :: u266 :: u267 :: u268 :: u269 :: u270 :: u271 :: u272 :: u273 :: u274 :: u275 :: u276 :: u277 :: u278 :: u279 :: u280 :: u281 :: u282 :: u283 :: [])) []) w') : Code.wp Tryd.prog loop7c Q (Act.mk (List.toArray (u0 :: u1 :: u2 :: u3 :: u4 :: u5 :: u6 :: .slice (some ⟨g, 0, none⟩) 64 64 :: u8 :: u9 :: .slice (some ⟨g0, 0, none⟩) 64 c1 :: u11 :: u12 :: u13 :: u14 :: .slice (some ⟨gv, 0, none⟩) 8 cv :: .int .i64 0 :: u17 :: u18 :: u19 :: u20 :: u21 :: u22 :: u23 :: u24 :: u25 :: u26 :: u27 :: u28 :: u29 :: u30 :: u31 :: u32 :: u33 :: u34 :: u35 :: u36 :: u37 :: u38 :: u39 :: u40 :: u41 :: u42 :: u43 :: u44 :: u45 :: u46 :: u47 :: u48 :: u49 :: u50 :: u51 :: u52 :: u53 :: u54 :: u55 :: u56 :: u57 :: u58 :: u59 :: u60 :: u61 :: u62 :: u63 :: u64 :: u65 :: u66 :: u67 :: u68 :: u69 :: u70 :: u71 :: u72 :: u73 :: u74 :: u75 :: u76 :: u77 :: u78 :: u79 :: u80 :: u81 :: u82 :: u83 :: u84 :: u85 :: u86 :: u87 :: u88 :: u89 :: u90 :: u91 :: u92 :: u93 :: u94 :: u95 :: u96 :: u97 :: u98 :: u99 :: u100 :: u101 :: u102 :: u103 :: u104 :: u105 :: u106 :: u107 :: u108 :: u109 :: u110 :: u111 :: u112 :: u113 :: u114 :: u115 :: u116 :: u117 :: u118 :: u119 :: u120 :: u121 :: u122 :: u123 :: u124 :: u125 :: u126 :: u127 :: u128 :: u129 :: u130 :: u131 :: u132 :: u133 :: u134 :: u135 :: u136 :: u137 :: u138 :: u139 :: u140 :: u141 :: u142 :: u143 :: u144 :: u145 :: u146 :: u147 :: u148 :: u149 :: u150 :: u151 :: u152 :: u153 :: u154 :: u155 :: u156 :: u157 :: u158 :: u159 :: u160 :: u161 :: u162 :: u163 :: u164 :: u165 :: u166 :: u167 :: u168 :: u169 :: u170 :: u171 :: u172 :: u173 :: u174 :: u175 :: u176 :: u177 :: u178 :: u179 :: u180 :: u181 :: u182 :: u183 :: u184 :: u185 :: u186 :: u187 :: u188 :: u189 :: u190 :: u191 :: u192 :: u193 :: u194 :: u195 :: u196 :: u197 :: u198 :: u199 :: u200 :: u201 :: u202 :: u203 :: u204 :: u205 :: u206 :: u207 :: u208 :: u209 :: u210 :: u211 :: u212 :: u213 :: u214 :: u215 :: u216 :: u217 :: u218 :: u219 :: u220 :: u221 :: u222 :: u223 :: u224 :: u225 :: u226 :: u227 :: u228 :: u229 :: u230 :: u231 :: u232 :: u233 :: u234 :: u235 :: u236 :: u237 :: u238 :: u239 :: u240 :: u241 :: u242 :: u243 :: u244 :: u245 :: u246 :: u247 :: u248 :: u249 :: u250 :: u251 :: u252 :: u253 :: u254 :: u255 :: u256 :: u257 :: u258 :: u259 :: u260 :: u261 :: u262 :: u263 :: u264 :: u265 :: u266 :: u267 :: u268 :: u269 :: u270 :: u271 :: u272 :: u273 :: u274 :: u275 :: u276 :: u277 :: u278 :: u279 :: u280 :: u281 :: u282 :: u283 :: [])) []) wc := by
  conv => arg 2; whnf
  have HRC := Lib.hid hRC
  have HWC := Lib.hid hWC
  have HVS := Lib.hid hvs
  clear hRC hWC hvs
  go_loopw [15, 16] (fun v iv wx => ∃ (k gs cs : Nat) (sn : Sh.St), After SS blk k sn ∧ k ≤ 64 ∧ base ≤ gs ∧ iv = .int .i64 k ∧ v = .slice (some ⟨gs, 0, none⟩) 8 cs ∧ Hid (Src wx (some ⟨gs, 0, none⟩) (wvs sn.list)) ∧ Later wc wx) (fun _ iv _ => 64 - (intOf iv).toNat)
  case atStart => exact ⟨0, gv, cv, SS, ⟨rfl⟩, by omega, hbv, rfl, rfl, HVS, ⟨Keeps.refl _ _⟩⟩
  case round =>
    clear HVS
    obtain ⟨k, gs, cs, sn, HS, hk, hbs, rfl, rfl, HV, kl⟩ := hrel
    by_cases hlt4 : k < 64
    · obtain ⟨x, hx⟩ := isRoot_at k hlt4
      obtain ⟨y, hy⟩ := isWord_at blk k hlt4
      have vc : ∀ V, Later wr V → ∀ j z, sn.list[j]? = some z → V.cell? ⟨gs, j, none⟩ = some (.int .u32 (wi z)) := fun V hV j z hz => by
        have h1 := HV.out.at_ (j := j) (u := .int .u32 (wi z)) (by rw [wvs_get, hz]; rfl)
        rw [add_plain, Nat.zero_add] at h1
        exact (hV.out.cell (World.block_lt_of_cell? wr _ h1) id).trans h1
      have lr : Later wr wr := ⟨Keeps.refl _ _⟩
      have e4 := vc wr lr 4 sn.e rfl
      have e0 := vc wr lr 0 sn.a rfl
      have VC := Lib.hid vc
      have VK : Hid (∀ V, Later wr V → V.cell? ⟨g, k, none⟩ = some (.int .u32 (wi x))) := Lib.hid (fun V hV => HRC.out V ⟨kl.out.trans hV.out⟩ k x hx)
      have VW : Hid (∀ V, Later wr V → V.cell? ⟨g0, k, none⟩ = some (.int .u32 (wi y))) := Lib.hid (fun V hV => HWC.out V ⟨kl.out.trans hV.out⟩ k y hy)
      clear vc lr
      go_wp2_with fail
      refine reg37 gs cs g g0 c1 k sn x y wr _ hlt4 (fun V hV => VC.out V hV 5 _ rfl) (fun V hV => VC.out V hV 6 _ rfl) (fun V hV => VC.out V hV 7 _ rfl) VK.out VW.out ?_
      intro w37 k37
      intros
      clear e4 e0
      go_wp2_with fail
      refine reg38 gs cs sn w37 _ (fun V hV => VC.out V ⟨k37.out.trans hV.out⟩ 1 _ rfl) (fun V hV => VC.out V ⟨k37.out.trans hV.out⟩ 2 _ rfl) ?_
      intro w38 k38
      intros
      go_wp2_with fail
      have kk8 : Later wr w38 := ⟨k37.out.trans k38.out⟩
      refine reg39 gs cs sn x y w38 _ (fun V hV => VC.out V ⟨kk8.out.trans hV.out⟩ 1 _ rfl) (fun V hV => VC.out V ⟨kk8.out.trans hV.out⟩ 2 _ rfl) (fun V hV => VC.out V ⟨kk8.out.trans hV.out⟩ 3 _ rfl) (fun V hV => VC.out V ⟨kk8.out.trans hV.out⟩ 5 _ rfl) (fun V hV => VC.out V ⟨kk8.out.trans hV.out⟩ 6 _ rfl) ?_
      intro gn w39 hh39
      obtain ⟨k39, b39, v39⟩ := hh39
      intros
      have V39 := Lib.hid v39
      have K39 : Later wc w39 := ⟨(kl.out.trans kk8.out).trans k39.out⟩
      have bg : base ≤ gn := by have := kl.out.size; have := kk8.out.size; omega
      clear v39 b39
      go_wp2_with fail
      go_roundw
      case rel => exact ⟨k + 1, gn, 8, Sh.step sn x y, HS.succ hlt4 hx hy, by omega, bg, by go_num, rfl, V39, K39⟩
      case measure => simp [intOf]; omega
    · have ek : k = 64 := by omega
      rw [ek] at HS
      have hfin := hexit gs cs wr ⟨kl, hbs, by rw [HS.out]; exact HV.out⟩
      clear hexit
      go_wp2_with fail
      exact hfin _ _ _ _ _ _ _ _ _ _ _ _ _ _ _ _ _ _ _ _ _ _ _ _ _ _ _ _ _ _ _ _ _ _ _ _ _ _ _ _ _ _ _ _ _ _ _ _ _ _ _ _ _ _ _ _ _ _ _ _ _ _ _ _ _ _ _ _ _ _ _ _ _ _ _ _ _ _ _ _ _ _ _ _ _ _ _ _ _ _ _ _ _ _ _ _ _ _ _ _ _

end Go.Proofs.YtgbajlmcoghofaaDoor
namespace Go.Proofs.YtgbajlmcoghofaaDoor
open Go.RowKit Go.BigFrame
set_option linter.unusedVariables false

theorem own_some {w : World} {base size n : Nat} {e : TypeId} {v : Value} {xs : List Value} (h : w.ownsRow base e size v n xs) (hn : 0 < n) : ∃ g c, v = .slice (some ⟨g, 0, none⟩) n c := by
  rcases h.2 with ⟨_, h0⟩ | ⟨g, cap, cur, rfl, _⟩
  · omega
  · exact ⟨g, cap, rfl⟩

noncomputable def reg29c : Code := ((Tryd.f21.body.bind (findReg 29)).getD .skip)
set_option maxRecDepth 1000000 in
set_option maxHeartbeats 4000000 in
theorem reg29 {u0 u1 u2 u3 u4 u5 u6 u7 u8 u9 u11 u15 u16 u17 u18 u19 u20 u21 u22 u23 u24 u25 u26 u27 u28 u29 u30 u31 u32 u33 u34 u35 u36 u37 u38 u39 u40 u41 u42 u43 u44 u45 u46 u47 u48 u49 u50 u51 u52 u53 u54 u55 u56 u57 u58 u59 u60 u61 u62 u63 u64 u65 u66 u67 u68 u69 u70 u71 u72 u73 u74 u75 u76 u77 u78 u79 u80 u81 u82 u83 u84 u85 u86 u87 u88 u89 u90 u91 u92 u93 u94 u95 u96 u97 u98 u99 u100 u101 u102 u103 u104 u105 u106 u107 u108 u109 u110 u111 u112 u113 u114 u115 u116 u117 u118 u119 u120 u121 u122 u123 u124 u125 u126 u127 u128 u129 u130 u131 u132 u133 u134 u135 u136 u137 u138 u139 u140 u141 u142 u143 u144 u145 u146 u147 u148 u149 u150 u151 u152 u153 u154 u155 u156 u157 u158 u159 u160 u161 u162 u163 u164 u165 u166 u167 u168 u169 u170 u171 u172 u173 u174 u175 u176 u177 u178 u179 u180 u181 u182 u183 u184 u185 u186 u187 u188 u189 u190 u191 u192 u193 u194 u195 u196 u197 u198 u199 u200 u201 u202 u203 u204 u205 u206 u207 u208 u209 u210 u211 u212 u213 u214 u215 u216 u217 u218 u219 u220 u221 u222 u223 u224 u225 u226 u227 u228 u229 u230 u231 u232 u233 u234 u235 u236 u237 u238 u239 u240 u241 u242 u243 u244 u245 u246 u247 u248 u249 u250 u251 u252 u253 u254 u255 u256 u257 u258 u259 u260 u261 u262 u263 u264 u265 u266 u267 u268 u269 u270 u271 u272 u273 u274 u275 u276 u277 u278 u279 u280 u281 u282 u283 : Value} (g0 c1 i base : Nat) (ws : List UInt32) (x0 x1 x2 x3 : UInt32) (wr : World) (Q : Exit → Act → World → Prop) (hQ : ∀ c a w, Q (.panic c) (a.put (some 96) (.slice (some ⟨g0, 0, none⟩) i c1)) w → Q (.panic c) a w) (hi : 16 ≤ i) (hi2 : i < 64) (hbase : base ≤ wr.heap.size) (hO : wr.ownsRow base 42 1 (.slice (some ⟨g0, 0, none⟩) i c1) i (wvs ws)) (C0 : ∀ V, Later wr V → V.cell? ⟨g0, i - 16, none⟩ = some (.int .u32 (wi x0))) (C7 : ∀ V, Later wr V → V.cell? ⟨g0, i - 7, none⟩ = some (.int .u32 (wi x1)))
    (h : ∀ g2 c2 w', (w'.ownsRow base 42 1 (.slice (some ⟨g2, 0, none⟩) (i + 1) c2) (i + 1) (wvs ws ++ [.int .u32 (wi (x0 + x1 + (Sh.rr x2 7 ^^^ Sh.rr x2 18 ^^^ x2 >>> 3) + (Sh.rr x3 17 ^^^ Sh.rr x3 19 ^^^ x3 >>> 10)))]) ∧ Keeps (fun k => base ≤ k) wr w') → ∀ t96 t97 t98 t99 t100 t101 t102 t103 t104 t105 t106 t107 t108 t109 t110 t111 t112 t113 t114 t115 t116 t117 t118 t119 t120 t121 t122 t123 t124 t125 t126 t127 : Value, Q .normal (Act.mk (List.toArray (u0 :: u1 :: u2 :: u3 :: u4 :: u5 :: u6 :: u7 :: u8 :: u9 :: .slice (some ⟨g2, 0, none⟩) (i + 1) c2 :: u11 :: .int .i64 (i : Int) :: .int .u32 (wi x2) :: .int .u32 (wi x3) :: u15 :: u16 :: u17 :: u18 :: u19 :: u20 :: u21 :: u22 :: u23 :: u24 :: u25 :: u26 :: u27 :: u28 :: u29 :: u30 :: u31 :: u32 :: u33 :: u34 :: u35 :: u36 :: u37 :: u38 :: u39 :: u40 :: u41 :: u42 :: u43 :: u44 :: u45 :: u46 :: u47 :: u48 :: u49 :: u50 :: u51 :: u52 :: u53 :: u54 :: u55 :: u56 :: u57 :: u58 :: u59 :: u60 :: u61 :: u62 :: u63 :: u64 :: u65 :: u66 :: u67 :: u68 :: u69 :: u70 :: u71 :: u72 :: u73 :: u74 :: u75 :: u76 :: u77 :: u78 :: u79 :: u80 :: u81 :: u82 :: u83 :: u84 :: u85 :: u86 :: u87 :: u88 :: u89 :: u90 :: u91 :: u92 :: u93 :: u94 :: u95 :: t96 :: t97 :: t98 :: t99 :: t100 :: t101 :: t102 :: t103 :: t104 :: t105 :: t106 :: t107 :: t108 :: t109 :: t110 :: t111 :: t112 :: t113 :: t114 :: t115 :: t116 :: t117 :: t118 :: t119 :: t120 :: t121 :: t122 :: t123 :: t124 :: t125 :: t126 :: t127 :: u128 :: u129 :: u130 :: u131 :: u132 :: u133 :: u134 :: u135 :: u136 :: u137 :: u138 :: u139 :: u140 :: u141 :: u142 :: u143 :: u144 :: u145 :: u146 :: u147 :: u148 :: u149 :: u150 :: u151 :: u152 :: u153 :: u154 :: u155 :: u156 :: u157 :: u158 :: u159 :: u160 :: u161 :: u162 :: u163 :: u164 :: u165 :: u166 :: u167 :: u168 :: u169 :: u170 :: u171 :: u172 :: u173 :: u174 :: u175 :: u176 :: u177 :: u178 :: u179 :: u180 :: u181 :: u182 :: u183 :: u184 :: u185 :: u186 :: u187 :: u188 :: u189 :: u190 :: u191 :: u192 :: u193 :: u194 :: u195 :: u196 :: u197 :: u198 :: u199 :: u200 :: u201 :: u202 :: u203 :: u204 :: u205 :: u206 :: u207 :: u208 :: u209 :: u210 :: u211 :: u212 :: u213 :: u214 :: u215 :: u216 :: u217 :: u218 :: u219 :: u220 :: u221 :: u222 :: u223 :: u224 :: u225 :: u226 :: u227 :: u228 :: u229 :: u230 :: u231 :: u232 :: u233 :: u234 :: u235 :: u236 :: u237 :: u238 :: u239 :: u240 :: u241 :: u242 :: u243 :: u244 :: u245 :: u246 :: u247 :: u248 :: u249 :: u250 :: u251 :: u252 :: u253 :: u254 :: u255 :: u256 :: u257 :: u258 :: u259 :: u260 :: u261 :: u262 :: u263 :: u264 :: u265 :: u266 :: u267 :: u268 :: u269 :: u270 :: u271 :: u272 :: u273 :: u274 :: u275 :: u276 :: u277 :: u278 :: u279 :: u280 :: u281 :: u282 :: u283 :: [])) []) w') : Code.wp Tryd.prog reg29c Q (Act.mk (List.toArray (u0 :: u1 :: u2 :: u3 :: u4 :: u5 :: u6 :: u7 :: u8 :: u9 :: .slice (some ⟨g0, 0, none⟩) i c1 :: u11 :: .int .i64 (i : Int) :: .int .u32 (wi x2) :: .int .u32 (wi x3) :: u15 :: u16 :: u17 :: u18 :: u19 :: u20 :: u21 :: u22 :: u23 :: u24 :: u25 :: u26 :: u27 :: u28 :: u29 :: u30 :: u31 :: u32 :: u33 :: u34 :: u35 :: u36 :: u37 :: u38 :: u39 :: u40 :: u41 :: u42 :: u43 :: u44 :: u45 :: u46 :: u47 :: u48 :: u49 :: u50 :: u51 :: u52 :: u53 :: u54 :: u55 :: u56 :: u57 :: u58 :: u59 :: u60 :: u61 :: u62 :: u63 :: u64 :: u65 :: u66 :: u67 :: u68 :: u69 :: u70 :: u71 :: u72 :: u73 :: u74 :: u75 :: u76 :: u77 :: u78 :: u79 :: u80 :: u81 :: u82 :: u83 :: u84 :: u85 :: u86 :: u87 :: u88 :: u89 :: u90 :: u91 :: u92 :: u93 :: u94 :: u95 :: u96 :: u97 :: u98 :: u99 :: u100 :: u101 :: u102 :: u103 :: u104 :: u105 :: u106 :: u107 :: u108 :: u109 :: u110 :: u111 :: u112 :: u113 :: u114 :: u115 :: u116 :: u117 :: u118 :: u119 :: u120 :: u121 :: u122 :: u123 :: u124 :: u125 :: u126 :: u127 :: u128 :: u129 :: u130 :: u131 :: u132 :: u133 :: u134 :: u135 :: u136 :: u137 :: u138 :: u139 :: u140 :: u141 :: u142 :: u143 :: u144 :: u145 :: u146 :: u147 :: u148 :: u149 :: u150 :: u151 :: u152 :: u153 :: u154 :: u155 :: u156 :: u157 :: u158 :: u159 :: u160 :: u161 :: u162 :: u163 :: u164 :: u165 :: u166 :: u167 :: u168 :: u169 :: u170 :: u171 :: u172 :: u173 :: u174 :: u175 :: u176 :: u177 :: u178 :: u179 :: u180 :: u181 :: u182 :: u183 :: u184 :: u185 :: u186 :: u187 :: u188 :: u189 :: u190 :: u191 :: u192 :: u193 :: u194 :: u195 :: u196 :: u197 :: u198 :: u199 :: u200 :: u201 :: u202 :: u203 :: u204 :: u205 :: u206 :: u207 :: u208 :: u209 :: u210 :: u211 :: u212 :: u213 :: u214 :: u215 :: u216 :: u217 :: u218 :: u219 :: u220 :: u221 :: u222 :: u223 :: u224 :: u225 :: u226 :: u227 :: u228 :: u229 :: u230 :: u231 :: u232 :: u233 :: u234 :: u235 :: u236 :: u237 :: u238 :: u239 :: u240 :: u241 :: u242 :: u243 :: u244 :: u245 :: u246 :: u247 :: u248 :: u249 :: u250 :: u251 :: u252 :: u253 :: u254 :: u255 :: u256 :: u257 :: u258 :: u259 :: u260 :: u261 :: u262 :: u263 :: u264 :: u265 :: u266 :: u267 :: u268 :: u269 :: u270 :: u271 :: u272 :: u273 :: u274 :: u275 :: u276 :: u277 :: u278 :: u279 :: u280 :: u281 :: u282 :: u283 :: [])) []) wr := by
  conv => arg 2; whnf
  have t16 : ((i : Int) - 16).toNat = i - 16 := by omega
  have t7 : ((i : Int) - 7).toNat = i - 7 := by omega
  have z16 : (0 : Int) ≤ (i : Int) - 16 := by omega
  have z7 : (0 : Int) ≤ (i : Int) - 7 := by omega
  have y16 : (i : Int) - 16 < i := by omega
  have y7 : (i : Int) - 7 < i := by omega
  have s16 : IntKind.i64.wrap ((i : Int) - 16) = (i : Int) - 16 := IntWalk.i64_in _ (by omega)
  have s7 : IntKind.i64.wrap ((i : Int) - 7) = (i : Int) - 7 := IntWalk.i64_in _ (by omega)
  have rx := wi_xor
  have ra := wi_add
  have q3 : (wi x2).tdiv 8 = wi (x2 >>> 3) := by rw [Int.tdiv_eq_ediv_of_nonneg (wi_nonneg x2)]; exact wi_shr x2 3 (by omega)
  have q3' : wi x2 / 8 = wi (x2 >>> 3) := wi_shr x2 3 (by omega)
  have q10 : (wi x3).tdiv 1024 = wi (x3 >>> 10) := by rw [Int.tdiv_eq_ediv_of_nonneg (wi_nonneg x3)]; exact wi_shr x3 10 (by omega)
  have q10' : wi x3 / 1024 = wi (x3 >>> 10) := wi_shr x3 10 (by omega)
  have w3' : IntKind.u32.wrap (wi (x2 >>> 3)) = wi (x2 >>> 3) := by rw [IntKind.wrap_u32']; exact Int.emod_eq_of_lt (wi_nonneg _) (wi_lt _)
  have w10' : IntKind.u32.wrap (wi (x3 >>> 10)) = wi (x3 >>> 10) := by rw [IntKind.wrap_u32']; exact Int.emod_eq_of_lt (wi_nonneg _) (wi_lt _)
  obtain ⟨u0, hu0, hv0, hw0, hx0⟩ := info_parts info_u32
  refine wp_region_phaseM 30 (Later wr) (by kernel_rfl) (by kernel_rfl) ⟨(Keeps.refl _ _).drew⟩ _ (.slice (some ⟨g0, 0, none⟩) i c1) rfl hQ (.inl ⟨by rfl, fun _ => by go_simp⟩) ?_
  simp only [List.take_succ_cons, List.take_zero, List.drop_succ_cons, List.drop_zero, Act.put, List.setIfInBounds_toArray, List.set_cons_zero, List.set_cons_succ]
  go_big_quiet_step ((intro _; rfl))
  go_big_quiet_step ((intro _; rfl))
  go_big_quiet_step ((intro _; rfl))
  go_big_quiet_step ((intro _; rfl))
  refine class_cell (by rfl) 42 (.tmp 100) (by rfl) ⟨g0, i - 16, none⟩ (by rfl) _ _ C0 Tryd.underlying42 rfl ?_
  simp only [Act.put, List.setIfInBounds_toArray, List.set_cons_zero, List.set_cons_succ]
  go_big_quiet_step ((intro _; rfl))
  go_big_quiet_step ((intro _; rfl))
  go_big_quiet_step ((intro _; rfl))
  go_big_quiet_step ((intro _; rfl))
  refine class_cell (by rfl) 42 (.tmp 105) (by rfl) ⟨g0, i - 7, none⟩ (by rfl) _ _ C7 Tryd.underlying42 rfl ?_
  simp only [Act.put, List.setIfInBounds_toArray, List.set_cons_zero, List.set_cons_succ]
  go_big_quiet_step ((intro _; rfl))
  go_big_quiet_step ((intro _; rfl))
  go_big_quiet_want
  go_big_quiet_op
  refine ⟨.int .u32 (wi (Sh.rr x2 7)), fun V hV => (down_q x2 7 V (by decide) (by decide)).mono fun e w' h => ⟨h.1, ⟨by obtain ⟨_, k, rfl⟩ := h; exact hV.out.drewN k⟩⟩, ?_⟩
  go_big_quiet_on
  go_big_quiet_step ((intro _; rfl))
  go_big_quiet_want
  go_big_quiet_op
  refine ⟨.int .u32 (wi (Sh.rr x2 18)), fun V hV => (down_q x2 18 V (by decide) (by decide)).mono fun e w' h => ⟨h.1, ⟨by obtain ⟨_, k, rfl⟩ := h; exact hV.out.drewN k⟩⟩, ?_⟩
  go_big_quiet_on
  go_big_quiet_step ((intro _; rfl))
  go_big_quiet_step ((intro _; rfl))
  go_big_quiet_step ((intro _; rfl))
  go_big_quiet_step ((intro _; rfl))
  go_big_quiet_step ((intro _; rfl))
  go_big_quiet_step ((intro _; rfl))
  go_big_quiet_want
  go_big_quiet_op
  refine ⟨.int .u32 (wi (Sh.rr x3 17)), fun V hV => (down_q x3 17 V (by decide) (by decide)).mono fun e w' h => ⟨h.1, ⟨by obtain ⟨_, k, rfl⟩ := h; exact hV.out.drewN k⟩⟩, ?_⟩
  go_big_quiet_on
  go_big_quiet_step ((intro _; rfl))
  go_big_quiet_want
  go_big_quiet_op
  refine ⟨.int .u32 (wi (Sh.rr x3 19)), fun V hV => (down_q x3 19 V (by decide) (by decide)).mono fun e w' h => ⟨h.1, ⟨by obtain ⟨_, k, rfl⟩ := h; exact hV.out.drewN k⟩⟩, ?_⟩
  go_big_quiet_on
  go_big_quiet_step ((intro _; rfl))
  go_big_quiet_step ((intro _; rfl))
  go_big_quiet_step ((intro _; rfl))
  go_big_quiet_step ((intro _; rfl))
  go_big_quiet_step ((intro _; rfl))
  refine wpQuiet_nil ?_
  intro w6 k6
  obtain ⟨N, hN⟩ : ∃ N, wi (x0 + x1 + (Sh.rr x2 7 ^^^ Sh.rr x2 18 ^^^ x2 >>> 3) + (Sh.rr x3 17 ^^^ Sh.rr x3 19 ^^^ x3 >>> 10)) = N := ⟨_, rfl⟩
  rw [hN]
  rw [hN] at h
  have s6 := k6.out.size
  have HK9 : Hid (Keeps (fun k => base ≤ k) wr (w6.alloc (.cells #[.int .u32 N] 42))) := Lib.hid ((k6.out.mono (fun _ _ h => h.elim)).alloc _)
  have HO9 : Hid ((w6.alloc (.cells #[.int .u32 N] 42)).ownsRow base 42 1 (.slice (some ⟨g0, 0, none⟩) i c1) i (wvs ws)) := Lib.hid (Keeps.owns (S := fun _ => False) (k6.out.alloc _) hO (fun _ _ => id))
  have HNW : Hid (∀ j u, [Value.int .u32 N][j]? = some u → (w6.alloc (.cells #[.int .u32 N] 42)).cell? ((⟨w6.heap.size, 0, none⟩ : Addr).add j) = some u) := Lib.hid (World.news_of_block (heap_alloc_new w6 _))
  clear hN q3 q3' q10 q10' w3' w10' rx ra t16 t7 z16 z7 y16 y7 s16 s7 C0 C7 hO
  go_wp2_with (refine wpList_append_own _ (by rfl) (.tmp 96) (.tmp 126) 67 (by rfl) base 42 u0 (.int .u32 0) 1 4 Tryd.underlying67 hu0 hv0 hw0 hx0 (by rfl) (by decide) (.slice (some ⟨g0, 0, none⟩) i c1) i (wvs ws) (by rfl) HO9.out ⟨w6.heap.size, 0, none⟩ 1 1 [.int .u32 N] (by rfl) (by rfl) HNW.out (by intro u hu; rw [List.mem_singleton] at hu; subst hu; rfl) (by unfold maxLen; omega) (by omega) (by simp; omega) ?_; intro v' w' ho' hg' _)
  obtain ⟨g2, c2, rfl⟩ := own_some ho' (by omega)
  have hkw : Keeps (fun k => base ≤ k) wr w' := HK9.out.grown hg' (fun k hk hh => (own_block HO9.out k hh).elim fun _ h => h.2)
  exact h g2 c2 w' ⟨ho', hkw⟩ _ _ _ _ _ _ _ _ _ _ _ _ _ _ _ _ _ _ _ _ _ _ _ _ _ _ _ _ _ _ _ _

noncomputable def reg43c : Code := ((Tryd.f21.body.bind (findReg 43)).getD .skip)
set_option maxRecDepth 1000000 in
set_option maxHeartbeats 4000000 in
theorem reg43 {u0 u1 u2 u3 u4 u5 u6 u7 u9 u10 u11 u12 u13 u14 u16 u17 u18 u19 u20 u22 u23 u24 u25 u26 u27 u28 u29 u30 u31 u32 u33 u34 u35 u36 u37 u38 u39 u40 u41 u42 u43 u44 u45 u46 u47 u48 u49 u50 u51 u52 u53 u54 u55 u56 u57 u58 u59 u60 u61 u62 u63 u64 u65 u66 u67 u68 u69 u70 u71 u72 u73 u74 u75 u76 u77 u78 u79 u80 u81 u82 u83 u84 u85 u86 u87 u88 u89 u90 u91 u92 u93 u94 u95 u96 u97 u98 u99 u100 u101 u102 u103 u104 u105 u106 u107 u108 u109 u110 u111 u112 u113 u114 u115 u116 u117 u118 u119 u120 u121 u122 u123 u124 u125 u126 u127 u128 u129 u130 u131 u132 u133 u134 u135 u136 u137 u138 u139 u140 u141 u142 u143 u144 u145 u146 u147 u148 u149 u150 u151 u152 u153 u154 u155 u156 u157 u158 u159 u160 u161 u162 u163 u164 u165 u166 u167 u168 u169 u170 u171 u172 u173 u174 u175 u176 u177 u178 u179 u180 u181 u182 u183 u184 u185 u186 u187 u188 u189 u190 u191 u192 u193 u194 u195 u196 u197 u198 u199 u200 u201 u202 u203 u204 u205 u206 u207 u208 u209 u210 u211 u212 u213 u214 u215 u216 u217 u218 u219 u220 u221 u222 u223 u224 u225 u226 u227 u228 u229 u230 u231 u232 u233 u234 u235 u236 u237 u238 u239 u240 u241 u242 u243 u244 u245 u246 u247 u248 u249 u250 u251 u252 u253 u254 u255 u256 u257 u258 u259 u260 u261 u262 u263 u264 u265 u266 u267 u268 u269 u270 u271 u272 u273 u274 u275 u276 u277 u278 u279 u280 u281 u282 u283 : Value} (h gs cs k : Nat) (x y : UInt32) (wr : World) (Q : Exit → Act → World → Prop) (hk : k < 8) (HC : ∀ V, Later wr V → V.cell? ⟨h, k, none⟩ = some (.int .u32 (wi x))) (HF : ∀ V, Later wr V → V.frozen? ⟨h, k, none⟩ = false) (HV : ∀ V, Later wr V → V.cell? ⟨gs, k, none⟩ = some (.int .u32 (wi y)))
    (hn : ∀ w' w6, Later wr w6 → w' = w6.setCell ⟨h, k, none⟩ (.int .u32 (wi (x + y))) → ∀ t231 t232 t233 t234 t235 t236 t237 t238 t239 t240 : Value, Q .normal (Act.mk (List.toArray (u0 :: u1 :: u2 :: u3 :: u4 :: u5 :: u6 :: u7 :: .slice (some ⟨h, 0, none⟩) 8 8 :: u9 :: u10 :: u11 :: u12 :: u13 :: u14 :: .slice (some ⟨gs, 0, none⟩) 8 cs :: u16 :: u17 :: u18 :: u19 :: u20 :: .int .i64 (k : Int) :: u22 :: u23 :: u24 :: u25 :: u26 :: u27 :: u28 :: u29 :: u30 :: u31 :: u32 :: u33 :: u34 :: u35 :: u36 :: u37 :: u38 :: u39 :: u40 :: u41 :: u42 :: u43 :: u44 :: u45 :: u46 :: u47 :: u48 :: u49 :: u50 :: u51 :: u52 :: u53 :: u54 :: u55 :: u56 :: u57 :: u58 :: u59 :: u60 :: u61 :: u62 :: u63 :: u64 :: u65 :: u66 :: u67 :: u68 :: u69 :: u70 :: u71 :: u72 :: u73 :: u74 :: u75 :: u76 :: u77 :: u78 :: u79 :: u80 :: u81 :: u82 :: u83 :: u84 :: u85 :: u86 :: u87 :: u88 :: u89 :: u90 :: u91 :: u92 :: u93 :: u94 :: u95 :: u96 :: u97 :: u98 :: u99 :: u100 :: u101 :: u102 :: u103 :: u104 :: u105 :: u106 :: u107 :: u108 :: u109 :: u110 :: u111 :: u112 :: u113 :: u114 :: u115 :: u116 :: u117 :: u118 :: u119 :: u120 :: u121 :: u122 :: u123 :: u124 :: u125 :: u126 :: u127 :: u128 :: u129 :: u130 :: u131 :: u132 :: u133 :: u134 :: u135 :: u136 :: u137 :: u138 :: u139 :: u140 :: u141 :: u142 :: u143 :: u144 :: u145 :: u146 :: u147 :: u148 :: u149 :: u150 :: u151 :: u152 :: u153 :: u154 :: u155 :: u156 :: u157 :: u158 :: u159 :: u160 :: u161 :: u162 :: u163 :: u164 :: u165 :: u166 :: u167 :: u168 :: u169 :: u170 :: u171 :: u172 :: u173 :: u174 :: u175 :: u176 :: u177 :: u178 :: u179 :: u180 :: u181 :: u182 :: u183 :: u184 :: u185 :: u186 :: u187 :: u188 :: u189 :: u190 :: u191 :: u192 :: u193 :: u194 :: u195 :: u196 :: u197 :: u198 :: u199 :: u200 :: u201 :: u202 :: u203 :: u204 :: u205 :: u206 :: u207 :: u208 :: u209 :: u210 :: u211 :: u212 :: u213 :: u214 :: u215 :: u216 :: u217 :: u218 :: u219 :: u220 :: u221 :: u222 :: u223 :: u224 :: u225 :: u226 :: u227 :: u228 :: u229 :: u230 :: t231 :: t232 :: t233 :: t234 :: t235 :: t236 :: t237 :: t238 :: t239 :: t240 :: u241 :: u242 :: u243 :: u244 :: u245 :: u246 :: u247 :: u248 :: u249 :: u250 :: u251 :: u252 :: u253 :: u254 :: u255 :: u256 :: u257 :: u258 :: u259 :: u260 :: u261 :: u262 :: u263 :: u264 :: u265 :: u266 :: u267 :: u268 :: u269 :: u270 :: u271 :: u272 :: u273 :: u274 :: u275 :: u276 :: u277 :: u278 :: u279 :: u280 :: u281 :: u282 :: u283 :: [])) []) w') : Code.wp Tryd.prog reg43c Q (Act.mk (List.toArray (u0 :: u1 :: u2 :: u3 :: u4 :: u5 :: u6 :: u7 :: .slice (some ⟨h, 0, none⟩) 8 8 :: u9 :: u10 :: u11 :: u12 :: u13 :: u14 :: .slice (some ⟨gs, 0, none⟩) 8 cs :: u16 :: u17 :: u18 :: u19 :: u20 :: .int .i64 (k : Int) :: u22 :: u23 :: u24 :: u25 :: u26 :: u27 :: u28 :: u29 :: u30 :: u31 :: u32 :: u33 :: u34 :: u35 :: u36 :: u37 :: u38 :: u39 :: u40 :: u41 :: u42 :: u43 :: u44 :: u45 :: u46 :: u47 :: u48 :: u49 :: u50 :: u51 :: u52 :: u53 :: u54 :: u55 :: u56 :: u57 :: u58 :: u59 :: u60 :: u61 :: u62 :: u63 :: u64 :: u65 :: u66 :: u67 :: u68 :: u69 :: u70 :: u71 :: u72 :: u73 :: u74 :: u75 :: u76 :: u77 :: u78 :: u79 :: u80 :: u81 :: u82 :: u83 :: u84 :: u85 :: u86 :: u87 :: u88 :: u89 :: u90 :: u91 :: u92 :: u93 :: u94 :: u95 :: u96 :: u97 :: u98 :: u99 :: u100 :: u101 :: u102 :: u103 :: u104 :: u105 :: u106 :: u107 :: u108 :: u109 :: u110 :: u111 :: u112 :: u113 :: u114 :: u115 :: u116 :: u117 :: u118 :: u119 :: u120 :: u121 :: u122 :: u123 :: u124 :: u125 :: u126 :: u127 :: u128 :: u129 :: u130 :: u131 :: u132 :: u133 :: u134 :: u135 :: u136 :: u137 :: u138 :: u139 :: u140 :: u141 :: u142 :: u143 :: u144 :: u145 :: u146 :: u147 :: u148 :: u149 :: u150 :: u151 :: u152 :: u153 :: u154 :: u155 :: u156 :: u157 :: u158 :: u159 :: u160 :: u161 :: u162 :: u163 :: u164 :: u165 :: u166 :: u167 :: u168 :: u169 :: u170 :: u171 :: u172 :: u173 :: u174 :: u175 :: u176 :: u177 :: u178 :: u179 :: u180 :: u181 :: u182 :: u183 :: u184 :: u185 :: u186 :: u187 :: u188 :: u189 :: u190 :: u191 :: u192 :: u193 :: u194 :: u195 :: u196 :: u197 :: u198 :: u199 :: u200 :: u201 :: u202 :: u203 :: u204 :: u205 :: u206 :: u207 :: u208 :: u209 :: u210 :: u211 :: u212 :: u213 :: u214 :: u215 :: u216 :: u217 :: u218 :: u219 :: u220 :: u221 :: u222 :: u223 :: u224 :: u225 :: u226 :: u227 :: u228 :: u229 :: u230 :: u231 :: u232 :: u233 :: u234 :: u235 :: u236 :: u237 :: u238 :: u239 :: u240 :: u241 :: u242 :: u243 :: u244 :: u245 :: u246 :: u247 :: u248 :: u249 :: u250 :: u251 :: u252 :: u253 :: u254 :: u255 :: u256 :: u257 :: u258 :: u259 :: u260 :: u261 :: u262 :: u263 :: u264 :: u265 :: u266 :: u267 :: u268 :: u269 :: u270 :: u271 :: u272 :: u273 :: u274 :: u275 :: u276 :: u277 :: u278 :: u279 :: u280 :: u281 :: u282 :: u283 :: [])) []) wr := by
  conv => arg 2; whnf
  have ra := wi_add
  have l0 : (0 : Int) ≤ (k : Int) := by omega
  have l8 : (k : Int) < 8 := by omega
  refine wp_region_phase 10 (Later wr) (by kernel_rfl) (by kernel_rfl) ⟨(Keeps.refl _ _).drew⟩ ?_
  simp only [List.take_succ_cons, List.take_zero, List.drop_succ_cons, List.drop_zero]
  go_big_quiet_step ((intro _; rfl))
  go_big_quiet_step ((intro _; rfl))
  go_big_quiet_step ((intro _; rfl))
  refine class_cell (by rfl) 42 (.tmp 233) (by rfl) ⟨h, k, none⟩ (by rfl) _ _ HC Tryd.underlying42 rfl ?_
  simp only [Act.put, List.setIfInBounds_toArray, List.set_cons_zero, List.set_cons_succ]
  go_big_quiet_step ((intro _; rfl))
  go_big_quiet_step ((intro _; rfl))
  go_big_quiet_step ((intro _; rfl))
  refine class_cell (by rfl) 42 (.tmp 237) (by rfl) ⟨gs, k, none⟩ (by rfl) _ _ HV Tryd.underlying42 rfl ?_
  simp only [Act.put, List.setIfInBounds_toArray, List.set_cons_zero, List.set_cons_succ]
  go_big_quiet_step ((intro _; rfl))
  go_big_quiet_step ((intro _; rfl))
  refine wpQuiet_nil ?_
  intro w6 k6
  have hc6 := HC w6 k6
  have hf6 := HF w6 k6
  have hfin := hn _ w6 k6 rfl
  clear hn HC HV HF
  go_wp2
  exact hfin _ _ _ _ _ _ _ _ _ _

noncomputable def loop8c : Code := ((Tryd.f21.body.bind (findLoop 41)).getD .skip)
set_option maxRecDepth 1000000 in
set_option maxHeartbeats 8000000 in
theorem loop8 {u0 u1 u2 u3 u4 u5 u6 u7 u9 u10 u11 u12 u13 u14 u16 u17 u18 u19 u20 u22 u23 u24 u25 u26 u27 u28 u29 u30 u31 u32 u33 u34 u35 u36 u37 u38 u39 u40 u41 u42 u43 u44 u45 u46 u47 u48 u49 u50 u51 u52 u53 u54 u55 u56 u57 u58 u59 u60 u61 u62 u63 u64 u65 u66 u67 u68 u69 u70 u71 u72 u73 u74 u75 u76 u77 u78 u79 u80 u81 u82 u83 u84 u85 u86 u87 u88 u89 u90 u91 u92 u93 u94 u95 u96 u97 u98 u99 u100 u101 u102 u103 u104 u105 u106 u107 u108 u109 u110 u111 u112 u113 u114 u115 u116 u117 u118 u119 u120 u121 u122 u123 u124 u125 u126 u127 u128 u129 u130 u131 u132 u133 u134 u135 u136 u137 u138 u139 u140 u141 u142 u143 u144 u145 u146 u147 u148 u149 u150 u151 u152 u153 u154 u155 u156 u157 u158 u159 u160 u161 u162 u163 u164 u165 u166 u167 u168 u169 u170 u171 u172 u173 u174 u175 u176 u177 u178 u179 u180 u181 u182 u183 u184 u185 u186 u187 u188 u189 u190 u191 u192 u193 u194 u195 u196 u197 u198 u199 u200 u201 u202 u203 u204 u205 u206 u207 u208 u209 u210 u211 u212 u213 u214 u215 u216 u217 u218 u219 u220 u221 u222 u223 u224 u225 u226 u227 u228 u229 u230 u231 u232 u233 u234 u235 u236 u237 u238 u239 u240 u241 u242 u243 u244 u245 u246 u247 u248 u249 u250 u251 u252 u253 u254 u255 u256 u257 u258 u259 u260 u261 u262 u263 u264 u265 u266 u267 u268 u269 u270 u271 u272 u273 u274 u275 u276 u277 u278 u279 u280 u281 u282 u283 : Value} (h gs cs : Nat) (SS sn : Sh.St) (wc : World) (Q : Exit → Act → World → Prop) (hne : gs ≠ h) (hrow : Row wc h 42 (wvs SS.list)) (hvs : Src wc (some ⟨gs, 0, none⟩) (wvs sn.list))
    (hexit : ∀  w', (Row w' h 42 (wvs (Sh.add8 SS sn).list) ∧ Keeps (fun q => q = h) wc w') → ∀ t21 t227 t228 t229 t230 t231 t232 t233 t234 t235 t236 t237 t238 t239 t240 : Value, Q (.exit 14) (Act.mk (List.toArray (u0 :: u1 :: u2 :: u3 :: u4 :: u5 :: u6 :: u7 :: .slice (some ⟨h, 0, none⟩) 8 8 :: u9 :: u10 :: u11 :: u12 :: u13 :: u14 :: .slice (some ⟨gs, 0, none⟩) 8 cs :: u16 :: u17 :: u18 :: u19 :: u20 :: t21 :: u22 :: u23 :: u24 :: u25 :: u26 :: u27 :: u28 :: u29 :: u30 :: u31 :: u32 :: u33 :: u34 :: u35 :: u36 :: u37 :: u38 :: u39 :: u40 :: u41 :: u42 :: u43 :: u44 :: u45 :: u46 :: u47 :: u48 :: u49 :: u50 :: u51 :: u52 :: u53 :: u54 :: u55 :: u56 :: u57 :: u58 :: u59 :: u60 :: u61 :: u62 :: u63 :: u64 :: u65 :: u66 :: u67 :: u68 :: u69 :: u70 :: u71 :: u72 :: u73 :: u74 :: u75 :: u76 :: u77 :: u78 :: u79 :: u80 :: u81 :: u82 :: u83 :: u84 :: u85 :: u86 :: u87 :: u88 :: u89 :: u90 :: u91 :: u92 :: u93 :: u94 :: u95 :: u96 :: u97 :: u98 :: u99 :: u100 :: u101 :: u102 :: u103 :: u104 :: u105 :: u106 :: u107 :: u108 :: u109 :: u110 :: u111 :: u112 :: u113 :: u114 :: u115 :: u116 :: u117 :: u118 :: u119 :: u120 :: u121 :: u122 :: u123 :: u124 :: u125 :: u126 :: u127 :: u128 :: u129 :: u130 :: u131 :: u132 :: u133 :: u134 :: u135 :: u136 :: u137 :: u138 :: u139 :: u140 :: u141 :: u142 :: u143 :: u144 :: u145 :: u146 :: u147 :: u148 :: u149 :: u150 :: u151 :: u152 :: u153 :: u154 :: u155 :: u156 :: u157 :: u158 :: u159 :: u160 :: u161 :: u162 :: u163 :: u164 :: u165 :: u166 :: u167 :: u168 :: u169 :: u170 :: u171 :: u172 :: u173 :: u174 :: u175 :: u176 :: u177 :: u178 :: u179 :: u180 :: u181 :: u182 :: u183 :: u184 :: u185 :: u186 :: u187 :: u188 :: u189 :: u190 :: u191 :: u192 :: u193 :: u194 :: u195 :: u196 :: u197 :: u198 :: u199 :: u200 :: u201 :: u202 :: u203 :: u204 :: u205 :: u206 :: u207 :: u208 :: u209 :: u210 :: u211 :: u212 :: u213 :: u214 :: u215 :: u216 :: u217 :: u218 :: u219 :: u220 :: u221 :: u222 :: u223 :: u224 :: u225 :: u226 :: t227 :: t228 :: t229 :: t230 :: t231 :: t232 :: t233 :: t234 :: t235 :: t236 :: t237 :: t238 :: t239 :: t240 :: u241 :: u242 :: u243 :: u244 :: u245 :: u246 :: u247 :: u248 :: u249 :: u250 :: u251 :: u252 :: u253 :: u254 :: u255 :: u256 :: u257 :: u258 :: u259 :: u260 :: u261 :: u262 :: u263 :: u264 :: u265 :: u266 :: u267 :: u268 :: u269 :: u270 :: u271 :: u272 :: u273 :: u274 :: u275 :: u276 :: u277 :: u278 :: u279 :: u280 :: u281 :: u282 :: u283 :: [])) []) w') : Code.wp Tryd.prog loop8c Q (Act.mk (List.toArray (u0 :: u1 :: u2 :: u3 :: u4 :: u5 :: u6 :: u7 :: .slice (some ⟨h, 0, none⟩) 8 8 :: u9 :: u10 :: u11 :: u12 :: u13 :: u14 :: .slice (some ⟨gs, 0, none⟩) 8 cs :: u16 :: u17 :: u18 :: u19 :: u20 :: .int .i64 0 :: u22 :: u23 :: u24 :: u25 :: u26 :: u27 :: u28 :: u29 :: u30 :: u31 :: u32 :: u33 :: u34 :: u35 :: u36 :: u37 :: u38 :: u39 :: u40 :: u41 :: u42 :: u43 :: u44 :: u45 :: u46 :: u47 :: u48 :: u49 :: u50 :: u51 :: u52 :: u53 :: u54 :: u55 :: u56 :: u57 :: u58 :: u59 :: u60 :: u61 :: u62 :: u63 :: u64 :: u65 :: u66 :: u67 :: u68 :: u69 :: u70 :: u71 :: u72 :: u73 :: u74 :: u75 :: u76 :: u77 :: u78 :: u79 :: u80 :: u81 :: u82 :: u83 :: u84 :: u85 :: u86 :: u87 :: u88 :: u89 :: u90 :: u91 :: u92 :: u93 :: u94 :: u95 :: u96 :: u97 :: u98 :: u99 :: u100 :: u101 :: u102 :: u103 :: u104 :: u105 :: u106 :: u107 :: u108 :: u109 :: u110 :: u111 :: u112 :: u113 :: u114 :: u115 :: u116 :: u117 :: u118 :: u119 :: u120 :: u121 :: u122 :: u123 :: u124 :: u125 :: u126 :: u127 :: u128 :: u129 :: u130 :: u131 :: u132 :: u133 :: u134 :: u135 :: u136 :: u137 :: u138 :: u139 :: u140 :: u141 :: u142 :: u143 :: u144 :: u145 :: u146 :: u147 :: u148 :: u149 :: u150 :: u151 :: u152 :: u153 :: u154 :: u155 :: u156 :: u157 :: u158 :: u159 :: u160 :: u161 :: u162 :: u163 :: u164 :: u165 :: u166 :: u167 :: u168 :: u169 :: u170 :: u171 :: u172 :: u173 :: u174 :: u175 :: u176 :: u177 :: u178 :: u179 :: u180 :: u181 :: u182 :: u183 :: u184 :: u185 :: u186 :: u187 :: u188 :: u189 :: u190 :: u191 :: u192 :: u193 :: u194 :: u195 :: u196 :: u197 :: u198 :: u199 :: u200 :: u201 :: u202 :: u203 :: u204 :: u205 :: u206 :: u207 :: u208 :: u209 :: u210 :: u211 :: u212 :: u213 :: u214 :: u215 :: u216 :: u217 :: u218 :: u219 :: u220 :: u221 :: u222 :: u223 :: u224 :: u225 :: u226 :: u227 :: u228 :: u229 :: u230 :: u231 :: u232 :: u233 :: u234 :: u235 :: u236 :: u237 :: u238 :: u239 :: u240 :: u241 :: u242 :: u243 :: u244 :: u245 :: u246 :: u247 :: u248 :: u249 :: u250 :: u251 :: u252 :: u253 :: u254 :: u255 :: u256 :: u257 :: u258 :: u259 :: u260 :: u261 :: u262 :: u263 :: u264 :: u265 :: u266 :: u267 :: u268 :: u269 :: u270 :: u271 :: u272 :: u273 :: u274 :: u275 :: u276 :: u277 :: u278 :: u279 :: u280 :: u281 :: u282 :: u283 :: [])) []) wc := by
  conv => arg 2; whnf
  have HR := Lib.hid hrow
  have HVV := Lib.hid hvs
  clear hrow hvs
  go_loopw [21] (fun iv wx => ∃ k : Nat, k ≤ 8 ∧ iv = .int .i64 k ∧ Hid (Row wx h 42 (wvs (part8 SS sn k))) ∧ Keeps (fun q => q = h) wc wx) (fun iv _ => 8 - (intOf iv).toNat)
  case atStart => exact ⟨0, by omega, rfl, HR, Keeps.refl _ _⟩
  case round =>
    clear HR
    obtain ⟨k, hk, rfl, HM, hkp⟩ := hrel
    by_cases hlt : k < 8
    · obtain ⟨x, hx⟩ := isAt_list SS k hlt
      obtain ⟨y, hy⟩ := isAt_list sn k hlt
      have hc : ∀ V, Later wr V → V.cell? ⟨h, k, none⟩ = some (.int .u32 (wi x)) := fun V hV => by
        have r1 : Row V h 42 (wvs (part8 SS sn k)) := HM.out.keeps hV.out id
        rw [r1.cell, wvs_get, part8_at _ _ _ hlt, hx.out]
        rfl
      have hf : ∀ V, Later wr V → V.frozen? ⟨h, k, none⟩ = false := fun V hV => (HM.out.keeps hV.out id : Row V h 42 (wvs (part8 SS sn k))).frozen k
      have hv : ∀ V, Later wr V → V.cell? ⟨gs, k, none⟩ = some (.int .u32 (wi y)) := fun V hV => by
        have h1 := HVV.out.at_ (j := k) (u := .int .u32 (wi y)) (by rw [wvs_get, hy.out]; rfl)
        rw [add_plain, Nat.zero_add] at h1
        have hb := World.block_lt_of_cell? wc _ h1
        have h2 := (hkp.cell (p := ⟨gs, k, none⟩) hb hne).trans h1
        exact (hV.out.cell (World.block_lt_of_cell? wr _ h2) id).trans h2
      have hset : (wvs (part8 SS sn k)).set k (.int .u32 (wi (x + y))) = wvs (part8 SS sn (k + 1)) := by rw [wvs_set, ← part8_succ SS sn k x y hlt hx.out hy.out]
      have HC := Lib.hid hc
      have HF := Lib.hid hf
      have HV := Lib.hid hv
      have HSET := Lib.hid hset
      clear hc hf hv hset
      go_wp2_with fail
      refine reg43 h gs cs k x y wr _ hlt HC.out HF.out HV.out ?_
      intro w' w6 k6 hw'
      subst hw'
      intros
      have hrow' : Row (w6.setCell ⟨h, k, none⟩ (.int .u32 (wi (x + y)))) h 42 (wvs (part8 SS sn (k + 1))) := by
        rw [← HSET.out]
        exact (HM.out.keeps k6.out id : Row w6 h 42 (wvs (part8 SS sn k))).set k _
      have hk' : Keeps (fun q => q = h) wc (w6.setCell ⟨h, k, none⟩ (.int .u32 (wi (x + y)))) := Keeps.setCell (p := ⟨h, k, none⟩) (hkp.trans' k6.out (fun _ _ h => h.elim)) (fun _ => rfl) _
      obtain ⟨WN, hWN⟩ : ∃ WN, w6.setCell ⟨h, k, none⟩ (.int .u32 (wi (x + y))) = WN := ⟨_, rfl⟩
      rw [hWN] at hrow' hk' ⊢
      have HRW := Lib.hid hrow'
      have HKK := Lib.hid hk'
      clear hWN hrow' hk'
      go_wp2_with fail
      go_roundw
      case rel => exact ⟨k + 1, by omega, by go_num, HRW, HKK.out⟩
      case measure => simp [intOf]; omega
    · have ek : k = 8 := by omega
      rw [ek] at HM
      rw [part8_all] at HM
      have hfin := hexit wr ⟨HM.out, hkp⟩
      clear hexit
      go_wp2_with fail
      exact hfin _ _ _ _ _ _ _ _ _ _ _ _ _ _ _

noncomputable def loop6c : Code := ((Tryd.f21.body.bind (findLoop 25)).getD .skip)
set_option maxRecDepth 1000000 in
set_option maxHeartbeats 8000000 in
theorem loop6 {u0 u1 u2 u3 u4 u5 u6 u7 u8 u9 u11 u13 u14 u15 u16 u17 u18 u19 u20 u21 u22 u23 u24 u25 u26 u27 u28 u29 u30 u31 u32 u33 u34 u35 u36 u37 u38 u39 u40 u41 u42 u43 u44 u45 u46 u47 u48 u49 u50 u51 u52 u53 u54 u55 u56 u57 u58 u59 u60 u61 u62 u63 u64 u65 u66 u67 u68 u69 u70 u71 u72 u73 u74 u75 u76 u77 u78 u79 u80 u81 u82 u83 u84 u85 u86 u87 u88 u89 u90 u91 u92 u93 u94 u95 u96 u97 u98 u99 u100 u101 u102 u103 u104 u105 u106 u107 u108 u109 u110 u111 u112 u113 u114 u115 u116 u117 u118 u119 u120 u121 u122 u123 u124 u125 u126 u127 u128 u129 u130 u131 u132 u133 u134 u135 u136 u137 u138 u139 u140 u141 u142 u143 u144 u145 u146 u147 u148 u149 u150 u151 u152 u153 u154 u155 u156 u157 u158 u159 u160 u161 u162 u163 u164 u165 u166 u167 u168 u169 u170 u171 u172 u173 u174 u175 u176 u177 u178 u179 u180 u181 u182 u183 u184 u185 u186 u187 u188 u189 u190 u191 u192 u193 u194 u195 u196 u197 u198 u199 u200 u201 u202 u203 u204 u205 u206 u207 u208 u209 u210 u211 u212 u213 u214 u215 u216 u217 u218 u219 u220 u221 u222 u223 u224 u225 u226 u227 u228 u229 u230 u231 u232 u233 u234 u235 u236 u237 u238 u239 u240 u241 u242 u243 u244 u245 u246 u247 u248 u249 u250 u251 u252 u253 u254 u255 u256 u257 u258 u259 u260 u261 u262 u263 u264 u265 u266 u267 u268 u269 u270 u271 u272 u273 u274 u275 u276 u277 u278 u279 u280 u281 u282 u283 : Value} (g6 c6 base : Nat) (ws0 : List UInt32) (wc : World) (Q : Exit → Act → World → Prop) (hQ : ∀ c a a' w, a'.defers = a.defers → Q (.panic c) a w → Q (.panic c) a' w) (hwl : ws0.length = 16) (hb : base ≤ wc.heap.size) (hO : wc.ownsRow base 42 1 (.slice (some ⟨g6, 0, none⟩) 16 c6) 16 (wvs ws0))
    (hexit : ∀ g0 c1 w', (w'.ownsRow base 42 1 (.slice (some ⟨g0, 0, none⟩) 64 c1) 64 (wvs (Sh.ext 48 ws0)) ∧ Keeps (fun k => base ≤ k) wc w') → ∀ t12 t13 t14 t82 t83 t84 t85 t86 t87 t88 t89 t90 t91 t92 t93 t94 t95 t96 t97 t98 t99 t100 t101 t102 t103 t104 t105 t106 t107 t108 t109 t110 t111 t112 t113 t114 t115 t116 t117 t118 t119 t120 t121 t122 t123 t124 t125 t126 t127 : Value, Q (.exit 10) (Act.mk (List.toArray (u0 :: u1 :: u2 :: u3 :: u4 :: u5 :: u6 :: u7 :: u8 :: u9 :: .slice (some ⟨g0, 0, none⟩) 64 c1 :: u11 :: t12 :: t13 :: t14 :: u15 :: u16 :: u17 :: u18 :: u19 :: u20 :: u21 :: u22 :: u23 :: u24 :: u25 :: u26 :: u27 :: u28 :: u29 :: u30 :: u31 :: u32 :: u33 :: u34 :: u35 :: u36 :: u37 :: u38 :: u39 :: u40 :: u41 :: u42 :: u43 :: u44 :: u45 :: u46 :: u47 :: u48 :: u49 :: u50 :: u51 :: u52 :: u53 :: u54 :: u55 :: u56 :: u57 :: u58 :: u59 :: u60 :: u61 :: u62 :: u63 :: u64 :: u65 :: u66 :: u67 :: u68 :: u69 :: u70 :: u71 :: u72 :: u73 :: u74 :: u75 :: u76 :: u77 :: u78 :: u79 :: u80 :: u81 :: t82 :: t83 :: t84 :: t85 :: t86 :: t87 :: t88 :: t89 :: t90 :: t91 :: t92 :: t93 :: t94 :: t95 :: t96 :: t97 :: t98 :: t99 :: t100 :: t101 :: t102 :: t103 :: t104 :: t105 :: t106 :: t107 :: t108 :: t109 :: t110 :: t111 :: t112 :: t113 :: t114 :: t115 :: t116 :: t117 :: t118 :: t119 :: t120 :: t121 :: t122 :: t123 :: t124 :: t125 :: t126 :: t127 :: u128 :: u129 :: u130 :: u131 :: u132 :: u133 :: u134 :: u135 :: u136 :: u137 :: u138 :: u139 :: u140 :: u141 :: u142 :: u143 :: u144 :: u145 :: u146 :: u147 :: u148 :: u149 :: u150 :: u151 :: u152 :: u153 :: u154 :: u155 :: u156 :: u157 :: u158 :: u159 :: u160 :: u161 :: u162 :: u163 :: u164 :: u165 :: u166 :: u167 :: u168 :: u169 :: u170 :: u171 :: u172 :: u173 :: u174 :: u175 :: u176 :: u177 :: u178 :: u179 :: u180 :: u181 :: u182 :: u183 :: u184 :: u185 :: u186 :: u187 :: u188 :: u189 :: u190 :: u191 :: u192 :: u193 :: u194 :: u195 :: u196 :: u197 :: u198 :: u199 :: u200 :: u201 :: u202 :: u203 :: u204 :: u205 :: u206 :: u207 :: u208 :: u209 :: u210 :: u211 :: u212 :: u213 :: u214 :: u215 :: u216 :: u217 :: u218 :: u219 :: u220 :: u221 :: u222 :: u223 :: u224 :: u225 :: u226 :: u227 :: u228 :: u229 :: u230 :: u231 :: u232 :: u233 :: u234 :: u235 :: u236 :: u237 :: u238 :: u239 :: u240 :: u241 :: u242 :: u243 :: u244 :: u245 :: u246 :: u247 :: u248 :: u249 :: u250 :: u251 :: u252 :: u253 :: u254 :: u255 :: u256 :: u257 :: u258 :: u259 :: u260 :: u261 :: u262 :: u263 :: u264 :: u265 :: u266 :: u267 :: u268 :: u269 :: u270 :: u271 :: u272 :: u273 :: u274 :: u275 :: u276 :: u277 :: u278 :: u279 :: u280 :: u281 :: u282 :: u283 :: [])) []) w') : Code.wp Tryd.prog loop6c Q (Act.mk (List.toArray (u0 :: u1 :: u2 :: u3 :: u4 :: u5 :: u6 :: u7 :: u8 :: u9 :: .slice (some ⟨g6, 0, none⟩) 16 c6 :: u11 :: .int .i64 16 :: u13 :: u14 :: u15 :: u16 :: u17 :: u18 :: u19 :: u20 :: u21 :: u22 :: u23 :: u24 :: u25 :: u26 :: u27 :: u28 :: u29 :: u30 :: u31 :: u32 :: u33 :: u34 :: u35 :: u36 :: u37 :: u38 :: u39 :: u40 :: u41 :: u42 :: u43 :: u44 :: u45 :: u46 :: u47 :: u48 :: u49 :: u50 :: u51 :: u52 :: u53 :: u54 :: u55 :: u56 :: u57 :: u58 :: u59 :: u60 :: u61 :: u62 :: u63 :: u64 :: u65 :: u66 :: u67 :: u68 :: u69 :: u70 :: u71 :: u72 :: u73 :: u74 :: u75 :: u76 :: u77 :: u78 :: u79 :: u80 :: u81 :: u82 :: u83 :: u84 :: u85 :: u86 :: u87 :: u88 :: u89 :: u90 :: u91 :: u92 :: u93 :: u94 :: u95 :: u96 :: u97 :: u98 :: u99 :: u100 :: u101 :: u102 :: u103 :: u104 :: u105 :: u106 :: u107 :: u108 :: u109 :: u110 :: u111 :: u112 :: u113 :: u114 :: u115 :: u116 :: u117 :: u118 :: u119 :: u120 :: u121 :: u122 :: u123 :: u124 :: u125 :: u126 :: u127 :: u128 :: u129 :: u130 :: u131 :: u132 :: u133 :: u134 :: u135 :: u136 :: u137 :: u138 :: u139 :: u140 :: u141 :: u142 :: u143 :: u144 :: u145 :: u146 :: u147 :: u148 :: u149 :: u150 :: u151 :: u152 :: u153 :: u154 :: u155 :: u156 :: u157 :: u158 :: u159 :: u160 :: u161 :: u162 :: u163 :: u164 :: u165 :: u166 :: u167 :: u168 :: u169 :: u170 :: u171 :: u172 :: u173 :: u174 :: u175 :: u176 :: u177 :: u178 :: u179 :: u180 :: u181 :: u182 :: u183 :: u184 :: u185 :: u186 :: u187 :: u188 :: u189 :: u190 :: u191 :: u192 :: u193 :: u194 :: u195 :: u196 :: u197 :: u198 :: u199 :: u200 :: u201 :: u202 :: u203 :: u204 :: u205 :: u206 :: u207 :: u208 :: u209 :: u210 :: u211 :: u212 :: u213 :: u214 :: u215 :: u216 :: u217 :: u218 :: u219 :: u220 :: u221 :: u222 :: u223 :: u224 :: u225 :: u226 :: u227 :: u228 :: u229 :: u230 :: u231 :: u232 :: u233 :: u234 :: u235 :: u236 :: u237 :: u238 :: u239 :: u240 :: u241 :: u242 :: u243 :: u244 :: u245 :: u246 :: u247 :: u248 :: u249 :: u250 :: u251 :: u252 :: u253 :: u254 :: u255 :: u256 :: u257 :: u258 :: u259 :: u260 :: u261 :: u262 :: u263 :: u264 :: u265 :: u266 :: u267 :: u268 :: u269 :: u270 :: u271 :: u272 :: u273 :: u274 :: u275 :: u276 :: u277 :: u278 :: u279 :: u280 :: u281 :: u282 :: u283 :: [])) []) wc := by
  conv => arg 2; whnf
  have HO6 := Lib.hid hO
  clear hO
  go_loopw [10, 12] (fun v iv wx => ∃ (i : Nat) (g0 c0 : Nat), 16 ≤ i ∧ i ≤ 64 ∧ iv = .int .i64 i ∧ v = .slice (some ⟨g0, 0, none⟩) i c0 ∧ Hid (wx.ownsRow base 42 1 (.slice (some ⟨g0, 0, none⟩) i c0) i (wvs (Sh.ext (i - 16) ws0))) ∧ Keeps (fun k => base ≤ k) wc wx) (fun _ iv _ => 64 - (intOf iv).toNat)
  case atStart => exact ⟨16, g6, c6, by omega, by omega, rfl, rfl, HO6, Keeps.refl _ _⟩
  case round =>
    clear HO6
    obtain ⟨i, g0, c1, hi16, hi64, rfl, rfl, HO, kx⟩ := hrel
    by_cases hlt3 : i < 64
    · obtain ⟨ws, hws⟩ : ∃ ws, Sh.ext (i - 16) ws0 = ws := ⟨_, rfl⟩
      have hwsl : ws.length = i := by rw [← hws, Sh.ext_length, hwl]; omega
      have hnx : Sh.ext (i + 1 - 16) ws0 = ws ++ [Sh.nextW ws] := by rw [show i + 1 - 16 = (i - 16) + 1 by omega, ← hws]; rfl
      rw [hws] at HO
      have hcell : ∀ V, Later wr V → ∀ k (hk : k < ws.length), V.cell? ⟨g0, k, none⟩ = some (.int .u32 (wi ws[k])) := fun V hV k hk => by
        have h := (hV.out.owns HO.out (fun _ _ => id)).cells (g := g0) rfl k (.int .u32 (wi ws[k])) (wvs_at ws hk)
        rwa [add_plain, Nat.zero_add] at h
      have c0 := fun V hV => hcell V hV (i - 16) (by omega)
      have c7 := fun V hV => hcell V hV (i - 7) (by omega)
      have c15 := hcell wr ⟨Keeps.refl _ _⟩ (i - 15) (by omega)
      have c2 := hcell wr ⟨Keeps.refl _ _⟩ (i - 2) (by omega)
      unfold Sh.nextW at hnx
      rw [hwsl] at hnx
      have gd : ∀ k (hk : k < ws.length), ws.getD k 0 = ws[k] := fun k hk => by rw [List.getD_eq_getElem?_getD, List.getElem?_eq_getElem hk]; rfl
      rw [gd (i - 16) (by omega), gd (i - 7) (by omega), gd (i - 15) (by omega), gd (i - 2) (by omega)] at hnx
      generalize ws[i - 16] = x0 at *
      generalize ws[i - 7] = x1 at *
      generalize ws[i - 15] = x2 at *
      generalize ws[i - 2] = x3 at *
      have hcat : wvs ws ++ [.int .u32 (wi (x0 + x1 + (Sh.rr x2 7 ^^^ Sh.rr x2 18 ^^^ x2 >>> 3) + (Sh.rr x3 17 ^^^ Sh.rr x3 19 ^^^ x3 >>> 10)))] = wvs (Sh.ext (i + 1 - 16) ws0) := by
        rw [hnx]
        unfold wvs
        rw [List.map_append]
        rfl
      have HCAT := Lib.hid hcat
      have C0 := Lib.hid c0
      have C7 := Lib.hid c7
      have j15 : (15 : Int) ≤ i := by omega
      have j16 : (16 : Int) ≤ i := by omega
      have j64 : (i : Int) < 64 := by omega
      have sx := kx.size
      clear hcell gd hnx hwsl hws c0 c7 hcat
      go_wp2_with fail
      clear c15 c2
      refine reg29 g0 c1 i base ws x0 x1 x2 x3 wr _ (fun c a w h => hQ c (a.put (some 96) (.slice (some ⟨g0, 0, none⟩) i c1)) a w rfl h) hi16 hlt3 (by omega) HO.out C0.out C7.out ?_
      intro g2 c2 w29 hh29
      obtain ⟨ho29, hk29⟩ := hh29
      intros
      rw [HCAT.out] at ho29
      have HO29 := Lib.hid ho29
      have HK29 := Lib.hid (kx.trans hk29)
      clear ho29 hk29
      go_wp2_with fail
      go_roundw
      case rel => exact ⟨i + 1, g2, c2, by omega, by omega, by go_num, rfl, HO29, HK29.out⟩
      case measure => simp [intOf]; omega
    · obtain rfl : i = 64 := by omega
      have hfin := hexit g0 c1 wr ⟨HO.out, kx⟩
      clear hexit
      go_wp2_with fail
      exact hfin _ _ _ _ _ _ _ _ _ _ _ _ _ _ _ _ _ _ _ _ _ _ _ _ _ _ _ _ _ _ _ _ _ _ _ _ _ _ _ _ _ _ _ _ _ _ _ _ _

end Go.Proofs.YtgbajlmcoghofaaDoor
