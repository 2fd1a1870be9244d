/-
  Whole parts: an entry more (Add of package frontier). WRITTEN BY wip/gen/mkfrb.py.
-/
import Derived.Test.YtnnhbgaeohdojaaDoorFrA
import Derived.Test.YtnnhbgaeohdojaaDoorFrM
namespace Go.Proofs.YtnnhbgaeohdojaaDoor
open Go.RowKit Go.BigFrame
set_option linter.unusedVariables false

section
variable {P : Program} {ops : Array Oper} {B : World → Prop} {ls : List Nat} {E : Act → World → Prop} {k : Nat} {o : Oper} {rest : List Nat} {a : Act} {F : World → Prop}
/-- One thing is appended to a full slice. -/
theorem T_append (h0 : ops[k]? = some o) (hw : Region.wanted o (yielded ops a.tmps) = true) (hk : ls.contains k = true) (t : TypeId) (s x : Operand) (ho : o.op = .call { callee := .builtin .append, args := #[s, x], argTypes := #[t, t] })
    (e : TypeId) (i : TypeInfo) (z : Value) (size bytes : Nat) (ht : P.underlying t = some (.slice e)) (hi : P.info? e = some i) (hz : i.zero = some z) (hsize : i.size = size) (hby : i.bytes = bytes) (hzs : z.cells.size = size)
    (A : Option Addr) (n : Nat) (xs : List Value) (hs : a.eval s = .slice A n n) (hxl : xs.length = n * size) (hA0 : A = none → n = 0) (gb c : Nat) (hx : a.eval x = .slice (some ⟨gb, 0, none⟩) 1 c) (news : List Value) (hl : news.length = size)
    (h63 : n + 1 ≤ maxLen) (hbytes : (n + 1) * bytes ≤ 140737488355328) (hB : Lasts B) (hF : Lasts F) (n0 : Nat) (hn : ∀ w, B w → n0 ≤ w.heap.size) (hsrc : ∀ w, B w → F w → Src w A xs) (hnews : ∀ w, B w → F w → w.heap[gb]? = some (.cells news.toArray e (0, 0)))
    (h : ∀ A' c', wpT P ops B ls E rest (a.put o.dst (.slice A' (n + 1) c')) (fun w => F w ∧ w.ownsRow n0 e size (.slice A' (n + 1) c') (n + 1) (xs ++ news))) : wpT P ops B ls E (k :: rest) a F := by
  refine T_loose h0 hw hk (fun v => ∃ A' c', v = .slice A' (n + 1) c') (fun v w => F w ∧ w.ownsRow n0 e size v (n + 1) (xs ++ news)) ⟨fun v => ?_, fun w hb hf => ?_⟩ ?_
  · exact hF.and (fun w w' hq hk => hk.owns hq (fun _ _ => id))
  · obtain ⟨v', w', hr, h2, h3⟩ := run_append_full (P := P) w t o.type e i z size bytes ht hi hz hsize hby hzs A n xs hxl (hsrc w hb hf) hA0 ⟨gb, 0, none⟩ 1 c news (by omega) (World.news_of_block (hnews w hb hf)) (by omega) h63 hbytes
    unfold execOp
    simp only [ho, resolve, invoke, builtin, Sem.run_bind, Sem.run_pure, Result.andThen_ok, List.map_toArray, List.map_cons, List.map_nil, hs, hx, hr]
    obtain ⟨A', c', hv⟩ : ∃ A' c', v' = .slice A' (n + 1) c' := by
      rcases h2.2 with ⟨_, h0⟩ | ⟨_, _, _, hv, _⟩
      · omega
      · exact ⟨_, _, hv⟩
    refine ⟨hB _ _ hb h3, ⟨A', c', hv⟩, hF _ _ hf h3, h2.1, ?_⟩
    rcases h2.2 with h4 | ⟨g, cap, cur, h4, h5, h6⟩
    · exact .inl h4
    · exact .inr ⟨g, cap, cur, h4, Nat.le_trans (hn w hb) h5, h6⟩
  · rintro v ⟨A', c', rfl⟩
    exact h A' c'
theorem run_storeVar_cell (w : World) (p : Addr) (ty : TypeId) (v old : Value) (hc : w.cell? p = some old) (hf : w.frozen? p = false) (hv : v.oneCell' = true) (hvc : v.cells = #[v]) (hi : (P.info? ty).map (·.size) = some 1) : (storeVar ty p v).run P w = .ok () (w.setCell p v) := by
  cases hq : P.info? ty with
  | none => simp [hq] at hi
  | some i =>
    have hs : i.size = 1 := by simpa [hq] using hi
    have hst : (store p v).run P w = .ok () (w.setCell p v) := by rw [run_store _ _ _ _ _ hv, hc]; simp [hf]
    have hp0 : p.add 0 = p := rfl
    simp [storeVar, sizeOf, typeInfo, hq, hvc, hs, storeCells, hp0, hst]
/-- A row is loaded that the region itself will store to. -/
theorem T_lload (h0 : ops[k]? = some o) (hw : Region.wanted o (yielded ops a.tmps) = true) (hk : ls.contains k = true) (ty : TypeId) (x : Operand) (ho : o.op = .load ty x) (b off : Nat) (hx : a.eval x = .pointer (some ⟨b, off, none⟩)) (cs : List Value) (d : TypeDesc) (hF : Lasts F)
    (hc : ∀ w, B w → F w → w.rangeAt b off cs) (hu : P.underlying ty = some d) (hd : d.isRow = true) (hi : (P.info? ty).map (·.size) = some cs.length) (h : wpT P ops B ls E rest (a.put o.dst (.agg cs.toArray)) F) : wpT P ops B ls E (k :: rest) a F := by
  refine T_loose h0 hw hk (fun v => v = .agg cs.toArray) (fun v w => F w) ⟨fun v => hF, fun w hb hf => ?_⟩ ?_
  · unfold execOp
    simp only [ho, hx, Sem.run_bind, Sem.run_pure, Result.andThen_ok, run_loadAt_mid w b off ty cs d (hc w hb hf) hu hd hi]
    exact ⟨hb, rfl, hf⟩
  · rintro v rfl
    exact h
/-- A cell is stored to. -/
theorem T_cell_store (h0 : ops[k]? = some o) (hw : Region.wanted o (yielded ops a.tmps) = true) (hk : ls.contains k = true) (ty : TypeId) (q x : Operand) (ho : o.op = .store ty q x) (hd : o.dst = none) (p : Addr) (hp : a.eval q = .pointer (some p)) (v : Value) (hx : a.eval x = v)
    (hv : v.oneCell' = true) (hvc : v.cells = #[v]) (hi : (P.info? ty).map (·.size) = some 1) (G : World → Prop) (hG : Lasts G) (hF : ∀ w, B w → F w → (∃ old, w.cell? p = some old) ∧ w.frozen? p = false ∧ B (w.setCell p v) ∧ G (w.setCell p v))
    (h : wpT P ops B ls E rest a G) : wpT P ops B ls E (k :: rest) a F := by
  refine T_loose h0 hw hk (fun v => True) (fun v w => G w) ⟨fun v => hG, fun w hb hf => ?_⟩ ?_
  · obtain ⟨⟨old, h1⟩, h2, h3, h4⟩ := hF w hb hf
    unfold execOp
    simp only [ho, hp, hx, Instr.storeAt, Instr.sureAddr, Sem.run_bind, Sem.run_pure, Result.andThen_ok, run_storeVar_cell w p ty v old h1 h2 hv hvc hi]
    exact ⟨h3, trivial, h4⟩
  · intro v _
    rw [hd]
    exact h
end
theorem own_base {w : World} {b1 b2 size n : Nat} {e : TypeId} {v : Value} {xs : List Value} (h : w.ownsRow b1 e size v n xs) (hb : b2 ≤ b1) : w.ownsRow b2 e size v n xs := by
  refine ⟨h.1, ?_⟩
  rcases h.2 with h4 | ⟨g, cap, cur, h4, h5, h6⟩
  · exact .inl h4
  · exact .inr ⟨g, cap, cur, h4, Nat.le_trans hb h5, h6⟩
theorem fadd_none (A : Option Addr) (n c : Nat) (w : World) : Calls Tryd.prog 39 #[.pointer none, .slice A n c] w fun e w' => e = .returned (.int .i64 1) ∧ w' = w := by
  go_enter Tryd.func39, Tryd.ntmps39
  go_wp2
  go_ret
  exact ⟨rfl, rfl⟩
theorem fadd_full (base g : Nat) (ps : List (List UInt8)) (A : Option Addr) (n c : Nat) (w : World) (h : Fro w base g 18446744073709551615 ps) : Calls Tryd.prog 39 #[.pointer (some ⟨g, 0, none⟩), .slice A n c] w fun e w' => e = .returned (.int .i64 31) ∧ w' = w := by
  obtain ⟨v, h1, _⟩ := h.var
  have hc : w.cell? ⟨g, 0, none⟩ = some (.int .u64 18446744073709551615) := h1.cell 0
  clear h1 h
  go_enter Tryd.func39, Tryd.ntmps39
  go_wp2
  go_ret
  exact ⟨rfl, rfl⟩
set_option maxRecDepth 100000 in
set_option maxHeartbeats 4000000 in
theorem fadd_any (base g sz : Nat) (ps : List (List UInt8)) (A : Option Addr) (c : Nat) (xs : List UInt8) (w : World) (hT : Tabs w) (hF : Fro w base g sz ps) (hS : Src w A (bvs xs)) (hc : xs.length ≤ c) (hmax : c ≤ 9223372036854775807) (hx : xs.length ≤ 1000) (hsz : sz < 18446744073709551615) (he : ps.length = On.ones 64 sz) (hbase : 2 ≤ base) :
    Calls Tryd.prog 39 #[.pointer (some ⟨g, 0, none⟩), .slice A xs.length c] w fun e w' => e = .returned (.int .i64 0) ∧ Fro w' base g (sz + 1) (Tr.addP sz ps (Tr.leaf xs)) ∧ Keeps (fun k => k = g) w w' := by
  obtain ⟨v, hrow, hown⟩ := hF.var
  obtain ⟨A6, c6, rfl⟩ := own_slice hown
  have hglt := hF.lt
  have hgb := hF.lo
  have hall := hF.all
  have hpath := PathAt.of_own' hown hall
  have hag : ∀ a, A6 = some a → a.block ≠ g := fun a e => own_apart hown hrow (by decide) a.block (by rw [e]; rfl)
  have HAG := Lib.hid hag
  obtain ⟨_, hnc, hcm⟩ := own_cap hown
  obtain ⟨Z, hZ, hz, hzs⟩ := zero_hash
  obtain ⟨ih, zh, hih, hzh, hsh, hbh, hzsh⟩ := info_hash
  have h64 : ps.length ≤ 64 := by rw [he]; exact On.ones_le 64 sz
  have hlf := Tr.leaf_length xs
  have hleaf : ∀ V, Later w V → Calls Tryd.prog 43 #[.slice A xs.length c] V fun e w' => e = .returned (.agg (bvs (Tr.leaf xs)).toArray) ∧ Keeps (fun _ => False) V w' := fun V hV => leaf_any A c xs V (hT.keeps hV.out id id) (hS.keeps hV.out (fun _ _ _ => id)) hc hmax (by omega)
  have hal : ∀ V : World, (Instr.alloc 34 true (.tuple #[])).run Tryd.prog V = .ok (.pointer (some ⟨V.heap.size, 0, none⟩)) (V.alloc (.cells Z 34)) := fun V => by go_simp
  have hc1 : ∀ V, Later w V → V.cell? ⟨g, 1, none⟩ = some (.slice A6 ps.length c6) := fun V hV => (hrow.keeps hV.out id).cell 1
  obtain ⟨s1, z1, o1⟩ := arr_hash (Tr.leaf xs) hlf
  obtain ⟨R0, hR0⟩ : ∃ R, Tr.carry ps.reverse sz (Tr.leaf xs) = R := ⟨_, rfl⟩
  have hres : Tr.addP sz ps (Tr.leaf xs) = R0.reverse := by unfold Tr.addP; rw [hR0]
  have hallR := Tr.addP_all sz ps (Tr.leaf xs) hall hlf
  rw [hres] at hallR ⊢
  obtain ⟨x0, hx0⟩ : ∃ x, Tr.leaf xs = x := ⟨_, rfl⟩
  rw [hx0] at hleaf hlf s1 z1 o1 hR0
  obtain ⟨LF, hLF⟩ : ∃ L, bvs x0 = L := ⟨_, rfl⟩
  rw [hLF] at hleaf s1 z1 o1
  obtain ⟨n, hn⟩ : ∃ n, ps.length = n := ⟨_, rfl⟩
  rw [hn] at hc1 h64 hnc
  have hA60 : A6 = none → n = 0 := fun e => by
    subst e
    rw [← hn]
    have := hpath.none_nil
    rw [this]
    rfl
  have HLEAF := Lib.hid hleaf
  have HC1 := Lib.hid hc1
  have HAL := Lib.hid hal
  have SL := Lib.hid s1
  have ZL := Lib.hid (hzs.trans z1.symm)
  have OL := Lib.hid o1
  have HT := Lib.hid hT
  have HROW0 := Lib.hid hrow
  rw [hn] at HROW0
  have HPATH := Lib.hid hpath
  have HR0 := Lib.hid hR0
  have HLF := Lib.hid hLF
  have HXL := Lib.hid hlf
  have HE := Lib.hid he
  rw [hn] at HE
  have HN := Lib.hid hn
  have HALL := Lib.hid hallR
  have HHH := Lib.hid (And.intro hih (And.intro hzh (And.intro hsh (And.intro hbh hzsh))))
  have hne : ((sz : Int) == 18446744073709551615) = false := by rw [beq_eq_false_iff_ne]; omega
  have hcs : ∀ V, Later w V → V.cell? ⟨g, 0, none⟩ = some (.int .u64 (sz : Int)) := fun V hV => (hrow.keeps hV.out id).cell 0
  have hcs0 := hcs w ⟨Keeps.refl _ _⟩
  have HCS := Lib.hid hcs
  clear hleaf hc1 hal s1 z1 o1 hT hrow hpath hR0 hLF hlf he hn hall hown hF hres hx0 hallR hih hzh hsh hbh hzsh hS hzs hZ hcs hag
  go_enter Tryd.func39, Tryd.ntmps39
  go_wp2_with fail
  refine wp_region_stores 9 [6, 7] [0, 1, 2, 3, 4, 5, 6, 7, 8] (Later w) (fun _ => True) (by kernel_rfl) (by kernel_rfl) (Lasts.later w) (Lasts.true) (⟨(Keeps.refl _ _).drew⟩) (trivial) ?_
  refine T_quiet (get_op rfl) (by rfl) (by rfl) (by rfl) ?_
  intro K hK
  go_big_quiet_op
  first | go_big_quiet_on | go_big_quiet_call ((intro _; rfl))
  refine T_call (get_op rfl) (by rfl) (by rfl) _ _ (.agg LF.toArray) (fun _ => by go_simp) (fun V hV => HLEAF.out V hV) ?_
  simp only [Act.put, List.setIfInBounds_toArray, List.set_cons_zero, List.set_cons_succ]
  refine T_quiet (get_op rfl) (by rfl) (by rfl) (by rfl) ?_
  intro K hK
  go_big_quiet_op
  first | go_big_quiet_on | go_big_quiet_call ((intro _; rfl))
  refine T_value (get_op rfl) (by rfl) (by rfl) (.pointer (some ⟨g, 0, none⟩)) (fun _ _ => by go_simp) ?_
  simp only [Act.put, List.setIfInBounds_toArray, List.set_cons_zero, List.set_cons_succ]
  refine T_quiet (get_op rfl) (by rfl) (by rfl) (by rfl) ?_
  intro K hK
  go_big_quiet_op
  first | go_big_quiet_on | go_big_quiet_call ((intro _; rfl))
  refine T_cell (get_op rfl) (by rfl) (by rfl) 28 (.tmp 20) (by rfl) ⟨g, 1, none⟩ (by rfl) (.slice A6 n c6) _ (fun V hV => HC1.out V hV) Tryd.underlying28 rfl ?_
  simp only [Act.put, List.setIfInBounds_toArray, List.set_cons_zero, List.set_cons_succ]
  refine T_alloc (get_op rfl) (by rfl) (by rfl) 34 Z (by rfl) HAL.out (Lasts.later w) Lasts.true w.heap.size (fun V hV => hV.out.size) ?_
  intro g5 hge
  simp only [Act.put, List.setIfInBounds_toArray, List.set_cons_zero, List.set_cons_succ]
  refine T_store (get_op rfl) (by rfl) (by rfl) 34 (.tmp 5) (.tmp 17) (by rfl) (by rfl) g5 (by rfl) LF.toArray Z (by rfl) 34 SL.out ZL.out OL.out (fun V => V.heap[g5]? = some (.cells LF.toArray 34 (0, 0))) (Lasts.block _ _) (fun V hb hf => ⟨hf.2, ⟨hb.out.trans' (Keeps.setRow _ _) (fun i hi h => by omega)⟩, setRow_heap _ _ _ _ _ _ hf.2⟩) ?_
  refine T_quiet (get_op rfl) (by rfl) (by rfl) (by rfl) ?_
  intro K hK
  go_big_quiet_op
  first | go_big_quiet_on | go_big_quiet_call ((intro _; rfl))
  refine T_nil ?_
  intro V5 h5 r5
  simp only [List.drop_succ_cons, List.drop_zero]
  have hc5 := HCS.out V5 h5
  have K5 := Lib.hid h5.out
  have R5 := Lib.hid r5
  have HRW5 := Lib.hid (HROW0.out.keeps h5.out id)
  have hg5 : g ≠ g5 := by omega
  have hV5 := h5.out.size
  clear hcs0 r5 h5 HLEAF HC1 HAL SL ZL OL HROW0 HCS
  go_wp2_with fail
  have hc5 := hc5
  go_loopw [6, 7, 8] (fun ov lv xv wr => ∃ (m left : Nat) (x : List UInt8), ov = .slice A6 m c6 ∧ lv = .int .u64 (left : Int) ∧ m ≤ n ∧ left < 18446744073709551616 ∧ Hid (Tr.carry (ps.take m).reverse left x = R0 ∧ m = On.ones 64 left ∧ x.length = 32) ∧ Hid (wr.heap[g5]? = some (.cells (bvs x).toArray 34 (0, 0))) ∧ Hid (Keeps (fun k => k = g5) V5 wr)) (fun _ lv _ _ => (intOf lv).toNat)
  case atStart => exact ⟨n, sz, x0, rfl, rfl, Nat.le_refl _, by omega, Lib.hid ⟨by rw [List.take_of_length_le (by rw [HN.out]; exact Nat.le_refl _)]; exact HR0.out, HE.out, HXL.out⟩, by rw [HLF.out]; exact R5, Lib.hid (Keeps.refl _ _)⟩
  case round =>
    clear hc5 R5
    obtain ⟨m, left, x, rfl, rfl, hm, hleft, HC, HX, HK⟩ := hrel
    have hhalf := Tr.ones_half left hleft
    have KW : Hid (Keeps (fun _ => False) w wr) := Lib.hid (K5.out.trans' HK.out (fun i hi h => by omega))
    by_cases hodd : left % 2 = 1
    · have hb : bits .and .u64 (left : Int) 1 = 1 := by
        have h := bits_and_u64_nat left 1 hleft (by omega)
        rw [Nat.and_one_is_mod, hodd] at h
        exact h
      obtain ⟨p, hp⟩ : ∃ p, m = p + 1 := ⟨m - 1, by have := HC.out.2.1; omega⟩
      obtain ⟨rp, hrp⟩ : ∃ r, ps[p]? = some r := ⟨_, List.getElem?_eq_getElem (by rw [HN.out]; omega)⟩
      obtain ⟨b6, o6, e6, hlie⟩ := HPATH.out.lie p rp hrp
      subst e6
      have hrl : rp.length = 32 := HPATH.out.all rp (List.mem_of_getElem? hrp)
      have hcar := HC.out.1
      rw [hp, Tr.take_pred' ps p rp hrp, Tr.carry_odd _ _ _ _ hodd] at hcar
      have hp1 : (m : Int) - 1 = (p : Int) := by omega
      have hpm : (p : Int) < m := by omega
      have hpc : (p : Int) ≤ c6 := by omega
      have hld : ∀ V, Keeps (fun k => k = g5) wr V → V.rangeAt b6 (o6 + p * 32) (bvs rp) := fun V hV => range_keeps hlie (KW.out.trans' hV (fun i hi h => by omega)) (fun _ _ => id)
      have hnode : ∀ V, Keeps (fun k => k = g5) wr V → Calls Tryd.prog 42 #[.agg (bvs rp).toArray, .agg (bvs x).toArray] V fun e w' => e = .returned (.agg (bvs (Tr.node rp x)).toArray) ∧ Keeps (fun _ => False) V w' := fun V hV => node_any rp x V (HT.out.keeps (KW.out.trans' hV (fun i hi h => by omega)) id id) hrl HC.out.2.2
      have hbx := HX.out
      have hnl : (Tr.node rp x).length = 32 := Tr.node_length _ _
      have hpi : (Tryd.prog.info? 34).map (·.size) = some (bvs rp).length := by rw [bvs_length, hrl]; exact size_hash'
      obtain ⟨sx, zx, ox⟩ := arr_hash x HC.out.2.2
      obtain ⟨sn, zn, on⟩ := arr_hash _ hnl
      obtain ⟨y, hy⟩ : ∃ y, Tr.node rp x = y := ⟨_, rfl⟩
      rw [hy] at hnode hcar hnl sn zn on
      obtain ⟨CR, hCR⟩ : ∃ L, bvs rp = L := ⟨_, rfl⟩
      obtain ⟨CX, hCX⟩ : ∃ L, bvs x = L := ⟨_, rfl⟩
      obtain ⟨CY, hCY⟩ : ∃ L, bvs y = L := ⟨_, rfl⟩
      rw [hCR] at hld hnode hpi
      rw [hCX] at hnode hbx sx zx
      rw [hCY] at hnode sn zn on
      have HCY := Lib.hid hCY
      have HLD : Hid (∀ V, Keeps (fun k => k = g5) wr V → V.rangeAt b6 (o6 + p * 32) CR) := Lib.hid hld
      have HNODE := Lib.hid hnode
      have HBX := Lib.hid hbx
      have HPI := Lib.hid hpi
      have SX : Hid ((Tryd.prog.info? 34).map (·.size) = some CX.length) := Lib.hid (by rw [← List.size_toArray]; exact sx)
      have SN := Lib.hid sn
      have ZN := Lib.hid (zx.trans zn.symm)
      have ON := Lib.hid on
      have HCAR := Lib.hid hcar
      have HONE : Hid (p = On.ones 64 (left / 2)) := Lib.hid (by have := HC.out.2.1; omega)
      have HNL := Lib.hid hnl
      have hl0 : 0 < left := by omega
      clear hld hnode hbx hpi sx zx ox sn zn on hCR hCX hCY hcar hnl hlie hrl hrp hy hhalf HX
      go_wp2_with fail
      refine wp_region_stores 11 [4, 9] [0, 1, 2, 3, 6, 7, 8, 4, 5, 9, 10] (fun V => Keeps (fun k => k = g5) wr V) (fun V => V.heap[g5]? = some (.cells CX.toArray 34 (0, 0))) (by kernel_rfl) (by kernel_rfl) (fun _ _ h k => h.trans' k (fun _ _ h => h.elim)) (Lasts.block _ _) (((Keeps.refl _ _).drew)) (HBX.out) ?_
      refine T_quiet (get_op rfl) (by rfl) (by rfl) (by rfl) ?_
      intro K hK
      go_big_quiet_op
      first | go_big_quiet_on | go_big_quiet_call ((intro _; rfl))
      refine T_quiet (get_op rfl) (by rfl) (by rfl) (by rfl) ?_
      intro K hK
      go_big_quiet_op
      first | go_big_quiet_on | go_big_quiet_call ((intro _; rfl))
      refine T_quiet (get_op rfl) (by rfl) (by rfl) (by rfl) ?_
      intro K hK
      go_big_quiet_op
      first | go_big_quiet_on | go_big_quiet_call ((intro _; rfl))
      refine T_load (get_op rfl) (by rfl) (by rfl) 34 (.tmp 36) (by rfl) b6 (o6 + p * 32) (by rfl) CR _ (fun V hV => HLD.out V hV) Tryd.underlying34 rfl HPI.out ?_
      simp only [Act.put, List.setIfInBounds_toArray, List.set_cons_zero, List.set_cons_succ]
      refine T_quiet (get_op rfl) (by rfl) (by rfl) (by rfl) ?_
      intro K hK
      go_big_quiet_op
      first | go_big_quiet_on | go_big_quiet_call ((intro _; rfl))
      refine T_quiet (get_op rfl) (by rfl) (by rfl) (by rfl) ?_
      intro K hK
      go_big_quiet_op
      first | go_big_quiet_on | go_big_quiet_call ((intro _; rfl))
      refine T_quiet (get_op rfl) (by rfl) (by rfl) (by rfl) ?_
      intro K hK
      go_big_quiet_op
      first | go_big_quiet_on | go_big_quiet_call ((intro _; rfl))
      refine T_lload (get_op rfl) (by rfl) (by rfl) 34 (.tmp 5) (by rfl) g5 0 (by rfl) CX _ (Lasts.block _ _) (fun V hb hf => rangeAt_row hf) Tryd.underlying34 rfl SX.out ?_
      simp only [Act.put, List.setIfInBounds_toArray, List.set_cons_zero, List.set_cons_succ]
      refine T_call (get_op rfl) (by rfl) (by rfl) _ _ (.agg CY.toArray) (fun _ => by go_simp) (fun V hV => HNODE.out V hV) ?_
      simp only [Act.put, List.setIfInBounds_toArray, List.set_cons_zero, List.set_cons_succ]
      refine T_store (get_op rfl) (by rfl) (by rfl) 34 (.tmp 5) (.tmp 39) (by rfl) (by rfl) g5 (by rfl) CY.toArray CX.toArray (by rfl) 34 SN.out ZN.out ON.out (fun V => V.heap[g5]? = some (.cells CY.toArray 34 (0, 0))) (Lasts.block _ _) (fun V hb hf => ⟨hf, hb.trans' (Keeps.setRow _ _) (fun i hi h => h), setRow_heap _ _ _ _ _ _ hf⟩) ?_
      refine T_quiet (get_op rfl) (by rfl) (by rfl) (by rfl) ?_
      intro K hK
      go_big_quiet_op
      first | go_big_quiet_on | go_big_quiet_call ((intro _; rfl))
      refine T_nil ?_
      intro w7 h7 r7
      have KN := Lib.hid (HK.out.trans h7)
      have HN6 := Lib.hid r7
      clear h7 r7
      simp only [List.drop_succ_cons, List.drop_zero]
      go_wp2_with fail
      go_roundw
      case rel => exact ⟨p, left / 2, y, rfl, by rw [show ((left / 2 : Nat) : Int) = (left : Int) / 2 by omega], by omega, by omega, Lib.hid ⟨HCAR.out, HONE.out, HNL.out⟩, by rw [HCY.out]; exact HN6, KN⟩
      case measure => simp [intOf]; omega
    · have hev : left % 2 = 0 := by omega
      have hb : bits .and .u64 (left : Int) 1 = 0 := by
        have h := bits_and_u64_nat left 1 hleft (by omega)
        rw [Nat.and_one_is_mod, hev] at h
        exact h
      have hcar := HC.out.1
      rw [Tr.carry_even _ _ _ hev] at hcar
      have hrev : R0.reverse = ps.take m ++ [x] := by rw [← hcar]; simp
      have hmc : m ≤ c6 := by omega
      have hA6m : A6 = none → m = 0 := fun e => by have := hA60 e; omega
      have hmn64 : m ≤ 64 := by omega
      have hrw : Row wr g 81 [.int .u64 (sz : Int), .slice A6 n c6] := HRW5.out.keeps HK.out (by omega)
      have hpt := HPATH.out.take m
      have hfm := flat_length (ps.take m) hpt.all
      have htl : (ps.take m).length = m := by rw [List.length_take, HN.out]; omega
      rw [htl] at hfm
      have hsrc : ∀ V, Keeps (fun k => k = g) wr V → Src V A6 (flat (ps.take m)) := fun V hV => (hpt.src.keeps KW.out (fun _ _ _ => id)).keeps hV (fun a e _ => HAG.out a e)
      have hbx := fun V => build_hash x HC.out.2.2 V
      have hx5 := HX.out
      have hxl := HC.out.2.2
      have hlx : (bvs x).length = 32 := by rw [bvs_length]; exact hxl
      obtain ⟨X, hX⟩ : ∃ L, bvs x = L := ⟨_, rfl⟩
      rw [hX] at hbx hx5 hlx
      have HX5 : Hid (∀ V, Keeps (fun k => k = g) wr V → V.rangeAt g5 0 X) := fun V hV => rangeAt_row ((hV.block _ (Array.getElem?_eq_some_iff.1 hx5).1 (fun e => hg5 e.symm)).trans hx5)
      have LX : Hid ((Tryd.prog.info? 34).map (·.size) = some X.length) := Lib.hid (by rw [hlx]; exact size_hash')
      have LXX := Lib.hid hlx
      have HBX := Lib.hid hbx
      have HFM := Lib.hid hfm
      have HSRC := Lib.hid hsrc
      have HROW := Lib.hid hrw
      have HST : Hid (∀ V A8 c8, Keeps (fun k => k = g) wr V → Row V g 81 [.int .u64 (sz : Int), .slice A6 n c6] → V.ownsRow wr.heap.size 34 32 (.slice A8 (m + 1) c8) (m + 1) (flat (ps.take m) ++ X) →
          (∃ old, V.cell? ⟨g, 1, none⟩ = some old) ∧ V.frozen? ⟨g, 1, none⟩ = false ∧ Keeps (fun k => k = g) wr (V.setCell ⟨g, 1, none⟩ (.slice A8 (m + 1) c8)) ∧
          (Row (V.setCell ⟨g, 1, none⟩ (.slice A8 (m + 1) c8)) g 81 [.int .u64 (sz : Int), .slice A8 (m + 1) c8] ∧ (V.setCell ⟨g, 1, none⟩ (.slice A8 (m + 1) c8)).ownsRow wr.heap.size 34 32 (.slice A8 (m + 1) c8) (m + 1) (flat (ps.take m) ++ X))) := fun V A8 c8 hk hr ho =>
        ⟨⟨_, hr.cell 1⟩, hr.frozen 1, hk.setCell (p := ⟨g, 1, none⟩) (fun _ => rfl) _, hr.set 1 _, (Keeps.setCell (p := ⟨g, 1, none⟩) (Keeps.refl (fun k => k = g) V) (fun _ => rfl) _).owns ho (fun k e hkg => own_apart ho hr (by decide) k e hkg)⟩
      have HREV := Lib.hid hrev
      have HXX := Lib.hid hX
      have HTL := Lib.hid htl
      have hbw : base ≤ wr.heap.size := by have := KW.out.size; omega
      clear hcar hrev hrw hpt hfm htl hsrc hbx hx5 hxl hlx hX hhalf HX HC hA60
      go_wp2_with fail
      refine wp_region_stores 9 [4, 5, 8] [0, 1, 2, 3, 4, 5, 6, 7, 8] (fun V => Keeps (fun k => k = g) wr V) (fun V => Row V g 81 [.int .u64 (sz : Int), .slice A6 n c6]) (by kernel_rfl) (by kernel_rfl) (fun _ _ h k => h.trans' k (fun _ _ h => h.elim)) (Lasts.block _ _) (((Keeps.refl _ _).drew)) (HROW.out) ?_
      refine T_quiet (get_op rfl) (by rfl) (by rfl) (by rfl) ?_
      intro K hK
      go_big_quiet_op
      first | go_big_quiet_on | go_big_quiet_call ((intro _; rfl))
      refine T_quiet (get_op rfl) (by rfl) (by rfl) (by rfl) ?_
      intro K hK
      go_big_quiet_op
      first | go_big_quiet_on | go_big_quiet_call ((intro _; rfl))
      refine T_call (get_op rfl) (by rfl) (by rfl) _ _ (.slice A6 m m) (fun _ => by go_simp) (fun V hV => (clip_any A6 m c6 V hmc).mono fun e w' h => ⟨h.1, by rw [h.2]; exact Keeps.refl _ _⟩) ?_
      simp only [Act.put, List.setIfInBounds_toArray, List.set_cons_zero, List.set_cons_succ]
      refine T_load (get_op rfl) (by rfl) (by rfl) 34 (.tmp 5) (by rfl) g5 0 (by rfl) X _ (fun V hV => HX5.out V hV) Tryd.underlying34 rfl LX.out ?_
      simp only [Act.put, List.setIfInBounds_toArray, List.set_cons_zero, List.set_cons_succ]
      refine T_build (get_op rfl) (by rfl) (by rfl) 28 34 (.tmp 46) (.agg X.toArray) X.toArray (by rfl) (by rfl) HBX.out (fun _ _ h k => h.trans' k (fun _ _ h => h.elim)) (Lasts.block _ _) wr.heap.size (fun V hV => hV.size) ?_
      intro g47 hg47
      simp only [Act.put, List.setIfInBounds_toArray, List.set_cons_zero, List.set_cons_succ]
      refine T_append (get_op rfl) (by rfl) (by rfl) 28 (.tmp 45) (.tmp 47) (by rfl) 34 ih zh 32 32 Tryd.underlying28 HHH.out.1 HHH.out.2.1 HHH.out.2.2.1 HHH.out.2.2.2.1 HHH.out.2.2.2.2 A6 m (flat (ps.take m)) (by rfl) HFM.out hA6m g47 1 (by rfl) X LXX.out (by unfold maxLen; omega) (by omega) (fun _ _ h k => h.trans' k (fun _ _ h => h.elim)) ((Lasts.block _ _).and (Lasts.block _ _)) wr.heap.size (fun V hV => hV.size) (fun V hb hf => HSRC.out V hb) (fun V hb hf => hf.2) ?_
      intro A8 c8
      simp only [Act.put, List.setIfInBounds_toArray, List.set_cons_zero, List.set_cons_succ]
      refine T_value (get_op rfl) (by rfl) (by rfl) (.pointer (some ⟨g, 0, none⟩)) (fun _ _ => by go_simp) ?_
      simp only [Act.put, List.setIfInBounds_toArray, List.set_cons_zero, List.set_cons_succ]
      refine T_quiet (get_op rfl) (by rfl) (by rfl) (by rfl) ?_
      intro K hK
      go_big_quiet_op
      first | go_big_quiet_on | go_big_quiet_call ((intro _; rfl))
      refine T_cell_store (get_op rfl) (by rfl) (by rfl) 28 (.tmp 50) (.tmp 48) (by rfl) (by rfl) ⟨g, 1, none⟩ (by rfl) (.slice A8 (m + 1) c8) (by rfl) rfl rfl (by kernel_rfl) (fun V => Row V g 81 [.int .u64 (sz : Int), .slice A8 (m + 1) c8] ∧ V.ownsRow wr.heap.size 34 32 (.slice A8 (m + 1) c8) (m + 1) (flat (ps.take m) ++ X)) (Lasts.and (Lasts.block _ _) (fun _ _ h k => k.owns h (fun _ _ => id))) (fun V hb hf => HST.out V A8 c8 hb hf.1.1 hf.2) ?_
      refine T_nil ?_
      intro V7 h7 r7
      simp only [List.drop_succ_cons, List.drop_zero]
      have hc7 : V7.cell? ⟨g, 0, none⟩ = some (.int .u64 (sz : Int)) := r7.1.cell 0
      have hf7 : V7.frozen? ⟨g, 0, none⟩ = false := r7.1.frozen 0
      have HR7 := Lib.hid r7
      have H7 := Lib.hid h7
      have hsz1 : (sz : Int) + 1 ≤ 18446744073709551615 := by omega
      clear r7 h7
      go_wp2_with fail
      go_ret
      have hks : Keeps (fun k => k = g) V7 (V7.setCell ⟨g, 0, none⟩ (.int .u64 ((sz : Int) + 1))) := Keeps.setCell (p := ⟨g, 0, none⟩) (Keeps.refl (fun k => k = g) V7) (fun _ => rfl) _
      refine ⟨rfl, ⟨hgb, HALL.out, .slice A8 (m + 1) c8, HR7.out.1.set 0 _, ?_⟩, (KW.out.mono (fun _ _ h => h.elim)).trans (H7.out.trans hks)⟩
      have hlen : R0.reverse.length = m + 1 := by rw [HREV.out, List.length_append, HTL.out]; rfl
      have hflat : flat R0.reverse = flat (ps.take m) ++ X := by rw [HREV.out, flat_snoc, HXX.out]
      rw [hlen, hflat]
      exact own_base (hks.owns HR7.out.2 (fun k e hkg => own_apart HR7.out.2 HR7.out.1 (by decide) k e hkg)) hbw
end Go.Proofs.YtnnhbgaeohdojaaDoor
