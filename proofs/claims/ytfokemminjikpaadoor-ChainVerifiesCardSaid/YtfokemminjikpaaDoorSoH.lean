/-
  The document's own hash (assayerref02.Of): the rounds, and the eight added, each loop by itself. WRITTEN BY wip/gen/soreg.py.
-/
import Derived.Test.YtfokemminjikpaaDoorSoG
namespace Go.Proofs.YtfokemminjikpaaDoor
open Go.RowKit Go.BigFrame
set_option linter.unusedVariables false

def headReg : Code → Option Nat
  | .region k _ _ => some k
  | .seq a _ => headReg a
  | .block _ c => headReg c
  | .scope c => headReg c
  | .loop c => headReg c
  | _ => none
/-- A loop, by its first region's number. -/
def findLoop (n : Nat) : Code → Option Code
  | .loop c => if headReg c == some n then some (.loop c) else findLoop n c
  | .seq a b => match findLoop n a with
    | some c => some c
    | none => findLoop n b
  | .block _ c => findLoop n c
  | .scope c => findLoop n c
  | .cond _ a b => match findLoop n a with
    | some c => some c
    | none => findLoop n b
  | _ => none

noncomputable def loop7c : Code := ((Tryd.f15.body.bind (findLoop 33)).getD .skip)
set_option maxRecDepth 1000000 in
set_option maxHeartbeats 8000000 in
theorem loop7 {u0 u1 u2 u3 u4 u5 u6 u8 u9 u11 u12 u13 u14 u17 u18 u19 u20 u21 u22 u23 u24 u25 u26 u27 u28 u29 u30 u31 u32 u33 u34 u35 u36 u37 u38 u39 u40 u41 u42 u43 u44 u45 u46 u47 u48 u49 u50 u51 u52 u53 u54 u55 u56 u57 u58 u59 u60 u61 u62 u63 u64 u65 u66 u67 u68 u69 u70 u71 u72 u73 u74 u75 u76 u77 u78 u79 u80 u81 u82 u83 u84 u85 u86 u87 u88 u89 u90 u91 u92 u93 u94 u95 u96 u97 u98 u99 u100 u101 u102 u103 u104 u105 u106 u107 u108 u109 u110 u111 u112 u113 u114 u115 u116 u117 u118 u119 u120 u121 u122 u123 u124 u125 u126 u127 u128 u129 u130 u131 u132 u133 u134 u135 u136 u137 u138 u139 u140 u141 u142 u143 u144 u145 u146 u147 u148 u149 u150 u151 u152 u153 u154 u155 u156 u157 u158 u159 u160 u161 u162 u163 u164 u165 u166 u167 u168 u169 u170 u171 u172 u173 u174 u175 u176 u177 u178 u179 u180 u181 u182 u183 u184 u185 u186 u187 u188 u189 u190 u191 u192 u193 u194 u195 u196 u197 u198 u199 u200 u201 u202 u203 u204 u205 u206 u207 u208 u209 u210 u211 u212 u213 u214 u215 u216 u217 u218 u219 u220 u221 u222 u223 u224 u225 u226 u227 u228 u229 u230 u231 u232 u233 u234 u235 u236 u237 u238 u239 u240 u241 u242 u243 u244 u245 u246 u247 u248 u249 u250 u251 u252 u253 u254 u255 u256 u257 u258 u259 u260 u261 u262 u263 u264 u265 u266 u267 u268 u269 u270 u271 u272 u273 u274 u275 u276 u277 u278 u279 u280 u281 u282 u283 : Value} (gv cv g g0 c1 base : Nat) (SS : Sh.St) (blk : List UInt8) (wc : World) (Q : Exit → Act → World → Prop) (hbv : base ≤ gv) (hbw : base ≤ wc.heap.size) (hvs : Src wc (some ⟨gv, 0, none⟩) (wvs SS.list)) (hRC : ∀ V, Later wc V → ∀ k x, IsRoot k x → V.cell? ⟨g, k, none⟩ = some (.int .u32 (wi x))) (hWC : ∀ V, Later wc V → ∀ k y, IsWord blk k y → V.cell? ⟨g0, k, none⟩ = some (.int .u32 (wi y)))
    (hexit : ∀ gs cs w', (Later wc w' ∧ base ≤ gs ∧ Src w' (some ⟨gs, 0, none⟩) (wvs (after SS blk 64).list)) → ∀ t16 t17 t18 t19 t20 t131 t132 t133 t134 t135 t136 t137 t138 t139 t140 t141 t142 t143 t144 t145 t146 t147 t148 t149 t150 t151 t152 t153 t154 t155 t156 t157 t158 t159 t160 t161 t162 t163 t164 t165 t166 t167 t168 t169 t170 t171 t172 t173 t174 t175 t176 t177 t178 t179 t180 t181 t182 t183 t184 t185 t186 t187 t188 t189 t190 t191 t192 t193 t194 t195 t196 t197 t198 t199 t200 t201 t202 t203 t204 t205 t206 t207 t208 t209 t210 t211 t212 t213 t214 t215 t216 t217 t218 t219 t220 t221 t222 t223 t224 t225 t226 : Value, Q (.exit 12) (Act.mk (List.toArray (u0 :: u1 :: u2 :: u3 :: u4 :: u5 :: u6 :: .slice (some ⟨g, 0, none⟩) 64 64 :: u8 :: u9 :: .slice (some ⟨g0, 0, none⟩) 64 c1 :: u11 :: u12 :: u13 :: u14 :: .slice (some ⟨gs, 0, none⟩) 8 cs :: t16 :: t17 :: t18 :: t19 :: t20 :: u21 :: u22 :: u23 :: u24 :: u25 :: u26 :: u27 :: u28 :: u29 :: u30 :: u31 :: u32 :: u33 :: u34 :: u35 :: u36 :: u37 :: u38 :: u39 :: u40 :: u41 :: u42 :: u43 :: u44 :: u45 :: u46 :: u47 :: u48 :: u49 :: u50 :: u51 :: u52 :: u53 :: u54 :: u55 :: u56 :: u57 :: u58 :: u59 :: u60 :: u61 :: u62 :: u63 :: u64 :: u65 :: u66 :: u67 :: u68 :: u69 :: u70 :: u71 :: u72 :: u73 :: u74 :: u75 :: u76 :: u77 :: u78 :: u79 :: u80 :: u81 :: u82 :: u83 :: u84 :: u85 :: u86 :: u87 :: u88 :: u89 :: u90 :: u91 :: u92 :: u93 :: u94 :: u95 :: u96 :: u97 :: u98 :: u99 :: u100 :: u101 :: u102 :: u103 :: u104 :: u105 :: u106 :: u107 :: u108 :: u109 :: u110 :: u111 :: u112 :: u113 :: u114 :: u115 :: u116 :: u117 :: u118 :: u119 :: u120 :: u121 :: u122 :: u123 :: u124 :: u125 :: u126 :: u127 :: u128 :: u129 :: u130 :: t131 :: t132 :: t133 :: t134 :: t135 :: t136 :: t137 :: t138 :: t139 :: t140 :: t141 :: t142 :: t143 :: t144 :: t145 :: t146 :: t147 :: t148 :: t149 :: t150 :: t151 :: t152 :: t153 :: t154 :: t155 :: t156 :: t157 :: t158 :: t159 :: t160 :: t161 :: t162 :: t163 :: t164 :: t165 :: t166 :: t167 :: t168 :: t169 :: t170 :: t171 :: t172 :: t173 :: t174 :: t175 :: t176 :: t177 :: t178 :: t179 :: t180 :: t181 :: t182 :: t183 :: t184 :: t185 :: t186 :: t187 :: t188 :: t189 :: t190 :: t191 :: t192 :: t193 :: t194 :: t195 :: t196 :: t197 :: t198 :: t199 :: t200 :: t201 :: t202 :: t203 :: t204 :: t205 :: t206 :: t207 :: t208 :: t209 :: t210 :: t211 :: t212 :: t213 :: t214 :: t215 :: t216 :: t217 :: t218 :: t219 :: t220 :: t221 :: t222 :: t223 :: t224 :: t225 :: t226 :: u227 :: u228 :: u229 :: u230 :: u231 :: u232 :: u233 :: u234 :: u235 :: u236 :: u237 :: u238 :: u239 :: u240 :: u241 :: u242 :: u243 :: u244 :: u245 :: u246 :: u247 :: u248 :: u249 :: u250 :: u251 :: u252 :: u253 :: u254 :: u255 :: u256 :: u257 :: u258 :: u259 :: u260 :: u261 :: u262 :: u263 :: u264 :: u265 :: u266 :: u267 :: u268 :: u269 :: u270 :: u271 :: u272 :: u273 :: u274 :: u275 :: u276 :: u277 :: u278 :: u279 :: u280 :: u281 :: u282 :: u283 :: [])) []) w') : Code.wp Tryd.prog loop7c Q (Act.mk (List.toArray (u0 :: u1 :: u2 :: u3 :: u4 :: u5 :: u6 :: .slice (some ⟨g, 0, none⟩) 64 64 :: u8 :: u9 :: .slice (some ⟨g0, 0, none⟩) 64 c1 :: u11 :: u12 :: u13 :: u14 :: .slice (some ⟨gv, 0, none⟩) 8 cv :: .int .i64 0 :: u17 :: u18 :: u19 :: u20 :: u21 :: u22 :: u23 :: u24 :: u25 :: u26 :: u27 :: u28 :: u29 :: u30 :: u31 :: u32 :: u33 :: u34 :: u35 :: u36 :: u37 :: u38 :: u39 :: u40 :: u41 :: u42 :: u43 :: u44 :: u45 :: u46 :: u47 :: u48 :: u49 :: u50 :: u51 :: u52 :: u53 :: u54 :: u55 :: u56 :: u57 :: u58 :: u59 :: u60 :: u61 :: u62 :: u63 :: u64 :: u65 :: u66 :: u67 :: u68 :: u69 :: u70 :: u71 :: u72 :: u73 :: u74 :: u75 :: u76 :: u77 :: u78 :: u79 :: u80 :: u81 :: u82 :: u83 :: u84 :: u85 :: u86 :: u87 :: u88 :: u89 :: u90 :: u91 :: u92 :: u93 :: u94 :: u95 :: u96 :: u97 :: u98 :: u99 :: u100 :: u101 :: u102 :: u103 :: u104 :: u105 :: u106 :: u107 :: u108 :: u109 :: u110 :: u111 :: u112 :: u113 :: u114 :: u115 :: u116 :: u117 :: u118 :: u119 :: u120 :: u121 :: u122 :: u123 :: u124 :: u125 :: u126 :: u127 :: u128 :: u129 :: u130 :: u131 :: u132 :: u133 :: u134 :: u135 :: u136 :: u137 :: u138 :: u139 :: u140 :: u141 :: u142 :: u143 :: u144 :: u145 :: u146 :: u147 :: u148 :: u149 :: u150 :: u151 :: u152 :: u153 :: u154 :: u155 :: u156 :: u157 :: u158 :: u159 :: u160 :: u161 :: u162 :: u163 :: u164 :: u165 :: u166 :: u167 :: u168 :: u169 :: u170 :: u171 :: u172 :: u173 :: u174 :: u175 :: u176 :: u177 :: u178 :: u179 :: u180 :: u181 :: u182 :: u183 :: u184 :: u185 :: u186 :: u187 :: u188 :: u189 :: u190 :: u191 :: u192 :: u193 :: u194 :: u195 :: u196 :: u197 :: u198 :: u199 :: u200 :: u201 :: u202 :: u203 :: u204 :: u205 :: u206 :: u207 :: u208 :: u209 :: u210 :: u211 :: u212 :: u213 :: u214 :: u215 :: u216 :: u217 :: u218 :: u219 :: u220 :: u221 :: u222 :: u223 :: u224 :: u225 :: u226 :: u227 :: u228 :: u229 :: u230 :: u231 :: u232 :: u233 :: u234 :: u235 :: u236 :: u237 :: u238 :: u239 :: u240 :: u241 :: u242 :: u243 :: u244 :: u245 :: u246 :: u247 :: u248 :: u249 :: u250 :: u251 :: u252 :: u253 :: u254 :: u255 :: u256 :: u257 :: u258 :: u259 :: u260 :: u261 :: u262 :: u263 :: u264 :: u265 :: u266 :: u267 :: u268 :: u269 :: u270 :: u271 :: u272 :: u273 :: u274 :: u275 :: u276 :: u277 :: u278 :: u279 :: u280 :: u281 :: u282 :: u283 :: [])) []) wc := by
  conv => arg 2; whnf
  have HRC := Lib.hid hRC
  have HWC := Lib.hid hWC
  have HVS := Lib.hid hvs
  clear hRC hWC hvs
  go_loopw [15, 16] (fun v iv wx => ∃ (k gs cs : Nat) (sn : Sh.St), After SS blk k sn ∧ k ≤ 64 ∧ base ≤ gs ∧ iv = .int .i64 k ∧ v = .slice (some ⟨gs, 0, none⟩) 8 cs ∧ Hid (Src wx (some ⟨gs, 0, none⟩) (wvs sn.list)) ∧ Later wc wx) (fun _ iv _ => 64 - (intOf iv).toNat)
  case atStart => exact ⟨0, gv, cv, SS, ⟨rfl⟩, by omega, hbv, rfl, rfl, HVS, ⟨Keeps.refl _ _⟩⟩
  case round =>
    clear HVS
    obtain ⟨k, gs, cs, sn, HS, hk, hbs, rfl, rfl, HV, kl⟩ := hrel
    by_cases hlt4 : k < 64
    · obtain ⟨x, hx⟩ := isRoot_at k hlt4
      obtain ⟨y, hy⟩ := isWord_at blk k hlt4
      have vc : ∀ V, Later wr V → ∀ j z, sn.list[j]? = some z → V.cell? ⟨gs, j, none⟩ = some (.int .u32 (wi z)) := fun V hV j z hz => by
        have h1 := HV.out.at_ (j := j) (u := .int .u32 (wi z)) (by rw [wvs_get, hz]; rfl)
        rw [add_plain, Nat.zero_add] at h1
        exact (hV.out.cell (World.block_lt_of_cell? wr _ h1) id).trans h1
      have lr : Later wr wr := ⟨Keeps.refl _ _⟩
      have e4 := vc wr lr 4 sn.e rfl
      have e0 := vc wr lr 0 sn.a rfl
      have VC := Lib.hid vc
      have VK : Hid (∀ V, Later wr V → V.cell? ⟨g, k, none⟩ = some (.int .u32 (wi x))) := Lib.hid (fun V hV => HRC.out V ⟨kl.out.trans hV.out⟩ k x hx)
      have VW : Hid (∀ V, Later wr V → V.cell? ⟨g0, k, none⟩ = some (.int .u32 (wi y))) := Lib.hid (fun V hV => HWC.out V ⟨kl.out.trans hV.out⟩ k y hy)
      clear vc lr
      go_wp2_with fail
      refine reg37 gs cs g g0 c1 k sn x y wr _ hlt4 (fun V hV => VC.out V hV 5 _ rfl) (fun V hV => VC.out V hV 6 _ rfl) (fun V hV => VC.out V hV 7 _ rfl) VK.out VW.out ?_
      intro w37 k37
      intros
      clear e4 e0
      go_wp2_with fail
      refine reg38 gs cs sn w37 _ (fun V hV => VC.out V ⟨k37.out.trans hV.out⟩ 1 _ rfl) (fun V hV => VC.out V ⟨k37.out.trans hV.out⟩ 2 _ rfl) ?_
      intro w38 k38
      intros
      go_wp2_with fail
      have kk8 : Later wr w38 := ⟨k37.out.trans k38.out⟩
      refine reg39 gs cs sn x y w38 _ (fun V hV => VC.out V ⟨kk8.out.trans hV.out⟩ 1 _ rfl) (fun V hV => VC.out V ⟨kk8.out.trans hV.out⟩ 2 _ rfl) (fun V hV => VC.out V ⟨kk8.out.trans hV.out⟩ 3 _ rfl) (fun V hV => VC.out V ⟨kk8.out.trans hV.out⟩ 5 _ rfl) (fun V hV => VC.out V ⟨kk8.out.trans hV.out⟩ 6 _ rfl) ?_
      intro gn w39 hh39
      obtain ⟨k39, b39, v39⟩ := hh39
      intros
      have V39 := Lib.hid v39
      have K39 : Later wc w39 := ⟨(kl.out.trans kk8.out).trans k39.out⟩
      have bg : base ≤ gn := by have := kl.out.size; have := kk8.out.size; omega
      clear v39 b39
      go_wp2_with fail
      go_roundw
      case rel => exact ⟨k + 1, gn, 8, Sh.step sn x y, HS.succ hlt4 hx hy, by omega, bg, by go_num, rfl, V39, K39⟩
      case measure => simp [intOf]; omega
    · have ek : k = 64 := by omega
      rw [ek] at HS
      have hfin := hexit gs cs wr ⟨kl, hbs, by rw [HS.out]; exact HV.out⟩
      clear hexit
      go_wp2_with fail
      exact hfin _ _ _ _ _ _ _ _ _ _ _ _ _ _ _ _ _ _ _ _ _ _ _ _ _ _ _ _ _ _ _ _ _ _ _ _ _ _ _ _ _ _ _ _ _ _ _ _ _ _ _ _ _ _ _ _ _ _ _ _ _ _ _ _ _ _ _ _ _ _ _ _ _ _ _ _ _ _ _ _ _ _ _ _ _ _ _ _ _ _ _ _ _ _ _ _ _ _ _ _ _

end Go.Proofs.YtfokemminjikpaaDoor
