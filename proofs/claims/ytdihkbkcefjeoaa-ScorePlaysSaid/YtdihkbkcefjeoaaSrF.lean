/-
  The document's own table: time goes by.
-/
import Derived.Test.YtdihkbkcefjeoaaSrE
namespace Go.Proofs.Ytdihkbkcefjeoaa
open Go.RowKit Go.BigFrame
set_option linter.unusedVariables false
set_option linter.unusedSimpArgs false

set_option maxRecDepth 100000 in
set_option maxHeartbeats 4000000 in
theorem rtick_any (A : Option Addr) (n c : Nat) (s : Sc.Tb) (w : World) (ok : Sc.Ok s) (hn : s.ps.length = n) (hg : w.ownsRow 0 42 2 (.slice A n c) n (pcells s.ps)) :
    Calls Try.prog 15 #[.agg (tcs s.limit s.hold A n c)] w fun e w' => ∃ A' c' A2 m c2, e = .returned (.tuple #[.agg (tcs s.limit s.hold A' n c'), .slice A2 m c2]) ∧ m = (Sc.ins s.ps n).length ∧ w'.ownsRow w.heap.size 3 1 (.slice A2 m c2) m (nvs (Sc.ins s.ps n)) ∧ w'.ownsRow 0 42 2 (.slice A' n c') n (pcells (Sc.tick s).ps) ∧ Keeps (fun _ => False) w w' := by
  have hn64 := ok.many
  rw [hn] at hn64
  have htk : pcells (Sc.tick s).ps = pcells (Sc.tks s.ps n) := by rw [← hn, Sc.tks_all]; rfl
  rw [htk]
  obtain ⟨L, hL⟩ : ∃ L, s.limit = L := ⟨_, rfl⟩
  obtain ⟨H, hH⟩ : ∃ L, s.hold = L := ⟨_, rfl⟩
  have hhb := ok.hold
  rw [hH] at hhb
  have hle : ∀ p ∈ s.ps, 0 ≤ p.2 ∧ p.2 ≤ H := by rw [← hH]; exact ok.left
  rw [hL, hH]
  have hzt : ∀ V : World, (zeroValue 30).run Try.prog V = .ok (.agg #[.int .i64 0, .int .i64 0, .slice none 0 0]) V := zero_T
  have hzp : ∀ V : World, (zeroValue 42).run Try.prog V = .ok (.agg #[.int .i64 0, .int .i64 0]) V := zero_P
  obtain ⟨b1, hb1⟩ : ∃ x, w.heap.size = x := ⟨_, rfl⟩
  obtain ⟨W1, hW1⟩ : ∃ V, w.alloc (.cells #[.int .i64 L, .int .i64 H, .slice A n c] 30) = V := ⟨_, rfl⟩
  have k1 : Keeps (fun _ => False) w W1 := by rw [← hW1]; exact (Keeps.refl _ _).alloc _
  have r1 : Row W1 b1 30 [.int .i64 L, .int .i64 H, .slice A n c] := by rw [← hW1, ← hb1]; exact heap_alloc_new w _
  obtain ⟨b2, hb2⟩ : ∃ x, W1.heap.size = x := ⟨_, rfl⟩
  obtain ⟨W2, hW2⟩ : ∃ V, W1.alloc (.cells #[.int .i64 0, .int .i64 0, .slice none 0 0] 30) = V := ⟨_, rfl⟩
  have k2 : Keeps (fun _ => False) W1 W2 := by rw [← hW2]; exact (Keeps.refl _ _).alloc _
  have r2 : Row W2 b2 30 [.int .i64 0, .int .i64 0, .slice none 0 0] := by rw [← hW2, ← hb2]; exact heap_alloc_new W1 _
  obtain ⟨ih, zh, hih, hzh, hsh, hbh, hzsh⟩ := info_in
  have HII := Lib.hid (And.intro hih (And.intro hzh (And.intro hsh (And.intro hbh hzsh))))
  have HG2 := Lib.hid ((k1.trans k2).owns hg (fun _ _ => id))
  have K2 := Lib.hid (k1.trans k2)
  have R12 := Lib.hid (r1.keeps k2 id)
  have R2 := Lib.hid r2
  have HN := Lib.hid (And.intro hn (And.intro hn64 (And.intro hhb hle)))
  have HBB : Hid (w.heap.size = b1 ∧ b1 < b2 ∧ b2 < W2.heap.size) := Lib.hid ⟨hb1, by have := r1.lt; omega, r2.lt⟩
  show Calls Try.prog 15 #[.agg #[.int .i64 L, .int .i64 H, .slice A n c]] w _
  clear hg k1 k2 r1 r2 hn ok hL hH hn64 hih hzh hsh hbh hzsh htk hhb hle
  go_enter Try.func15, Try.ntmps15
  go_wp2
  go_loopw [4, 5, 6] (fun lv iv _ wr => ∃ (i m : Nat) (A2 : Option Addr) (c2 : Nat) (A' : Option Addr) (c' : Nat), i ≤ n ∧ lv = .slice A2 m c2 ∧ iv = .int .i64 (i : Int) ∧ Hid (m = (Sc.ins s.ps i).length) ∧ Hid (wr.ownsRow b1 3 1 (.slice A2 m c2) m (nvs (Sc.ins s.ps i))) ∧ Hid (wr.ownsRow 0 42 2 (.slice A' n c') n (pcells (Sc.tks s.ps i))) ∧ Hid (Row wr b1 30 [.int .i64 L, .int .i64 H, .slice A' n c']) ∧ Hid (Keeps (fun j => j = b1) W2 wr)) (fun _ iv _ _ => n - (intOf iv).toNat)
  case atStart => exact ⟨0, 0, none, 0, A, c, by omega, rfl, rfl, Lib.hid rfl, Lib.hid (World.ownsRow_nil _ _ _ _), HG2, R12, Lib.hid (Keeps.refl _ _)⟩
  case round =>
    obtain ⟨i, m, A2, c2, A', c', hi, rfl, rfl, HM, HO, HP, HR, HK⟩ := hrel
    have c10 : wr.cell? ⟨b1, 0, none⟩ = some (.int .i64 L) := HR.out.cell 0
    have c11 : wr.cell? ⟨b1, 1, none⟩ = some (.int .i64 H) := HR.out.cell 1
    have c12 : wr.cell? ⟨b1, 2, none⟩ = some (.slice A' n c') := HR.out.cell 2
    have h64 : n ≤ 64 := HN.out.2.1.2
    by_cases hlt : i < n
    · have hii : (i : Int) < (n : Int) := by omega
      obtain ⟨g0, rfl⟩ := own_some13 HP.out (by omega)
      obtain ⟨p, hp⟩ : ∃ p, s.ps[i]? = some p := ⟨_, List.getElem?_eq_getElem (by have := HN.out.1; omega)⟩
      have hpt := Sc.tks_at s.ps i p hp
      have hsu := Sc.tks_succ s.ps i p hp
      obtain ⟨cx, cy⟩ := cell_own2 HP.out hpt hlt
      have his := Sc.ins_succ s.ps i
      rw [show s.ps.getD i (0, 0) = p by rw [List.getD_eq_getElem?_getD, hp]; rfl] at his
      have hlp := HN.out.2.2.2 p (List.mem_of_getElem? hp)
      have hmi := Sc.ins_le s.ps i
      rw [← HM.out] at hmi
      obtain ⟨x, y⟩ := p
      dsimp only at cx cy his hlp
      obtain ⟨b6, hb6⟩ : ∃ x, wr.heap.size = x := ⟨_, rfl⟩
      obtain ⟨W3, hW3⟩ : ∃ V, wr.alloc (.cells #[.int .i64 0, .int .i64 0] 42) = V := ⟨_, rfl⟩
      have k3 : Keeps (fun _ => False) wr W3 := by rw [← hW3]; exact (Keeps.refl _ _).alloc _
      have r3 : Row W3 b6 42 [.int .i64 0, .int .i64 0] := by rw [← hW3, ← hb6]; exact heap_alloc_new wr _
      have c60 : W3.cell? ⟨b6, 0, none⟩ = some (.int .i64 0) := r3.cell 0
      have c61 : W3.cell? ⟨b6, 1, none⟩ = some (.int .i64 0) := r3.cell 1
      have f60 := r3.frozen 0
      have f61 := r3.frozen 1
      obtain ⟨w4, hw4⟩ : ∃ V, (W3.setCell ⟨b6, 0, none⟩ (.int .i64 x)).setCell ⟨b6, 1, none⟩ (.int .i64 y) = V := ⟨_, rfl⟩
      have k34 : Keeps (fun j => j = b6) W3 w4 := by rw [← hw4]; exact ((Keeps.refl (fun k => k = b6) W3).setCell (p := ⟨b6, 0, none⟩) (fun _ => rfl) _).setCell (p := ⟨b6, 1, none⟩) (fun _ => rfl) _
      have k4 : Keeps (fun _ => False) wr w4 := k3.trans' k34 (fun j hj e => by omega)
      have r4 : Row w4 b6 42 [.int .i64 x, .int .i64 y] := by rw [← hw4]; exact (r3.set 0 (.int .i64 x)).set 1 (.int .i64 y)
      have e61 : w4.cell? ⟨b6, 1, none⟩ = some (.int .i64 y) := r4.cell 1
      have e60 : w4.cell? ⟨b6, 0, none⟩ = some (.int .i64 x) := r4.cell 0
      by_cases hy0 : 0 < y
      · have hyd : decide (y > 0) = true := decide_eq_true hy0
        obtain ⟨y1, hy1⟩ : ∃ y1, y - 1 = y1 := ⟨_, rfl⟩
        have hwy : IntKind.i64.wrap (y - 1) = y1 := by rw [← hy1]; exact IntWalk.i64_in _ (by have := HN.out.2.2.1; omega)
        have f4 := r4.frozen 1
        obtain ⟨w5, hw5⟩ : ∃ V, w4.setCell ⟨b6, 1, none⟩ (.int .i64 y1) = V := ⟨_, rfl⟩
        have k45 : Keeps (fun j => j = b6) w4 w5 := by rw [← hw5]; exact (Keeps.refl (fun k => k = b6) w4).setCell (p := ⟨b6, 1, none⟩) (fun _ => rfl) _
        have k5 : Keeps (fun _ => False) wr w5 := k4.trans' k45 (fun j hj e => by omega)
        have r5 : Row w5 b6 42 [.int .i64 x, .int .i64 y1] := by rw [← hw5]; exact r4.set 1 (.int .i64 y1)
        have d60 : w5.cell? ⟨b6, 0, none⟩ = some (.int .i64 x) := r5.cell 0
        have d61 : w5.cell? ⟨b6, 1, none⟩ = some (.int .i64 y1) := r5.cell 1
        have hr5 := HR.out.keeps k5 id
        have d10 : w5.cell? ⟨b1, 0, none⟩ = some (.int .i64 L) := hr5.cell 0
        have d11 : w5.cell? ⟨b1, 1, none⟩ = some (.int .i64 H) := hr5.cell 1
        have d12 : w5.cell? ⟨b1, 2, none⟩ = some (.slice (some ⟨g0, 0, none⟩) n c') := hr5.cell 2
        have hst : Calls Try.prog 23 #[.agg #[.int .i64 L, .int .i64 H, .slice (some ⟨g0, 0, none⟩) n c'], .int .i64 (i : Int), .agg #[.int .i64 x, .int .i64 y1]] w5 (fun e w' => ∃ A' c2, e = .returned (.agg #[.int .i64 L, .int .i64 H, .slice A' n c2]) ∧ w'.ownsRow w5.heap.size 42 2 (.slice A' n c2) n (pcells ((Sc.tks s.ps i).set i (x, y1))) ∧ Keeps (fun _ => False) w5 w') := rput_any L H (some ⟨g0, 0, none⟩) n c' (Sc.tks s.ps i) i (x, y1) w5 (k5.owns HP.out (fun _ _ => id)) hlt h64
        rw [show (Sc.tks s.ps i).set i (x, y1) = Sc.tks s.ps (i + 1) by rw [hsu]; unfold Sc.tk; rw [if_pos (show 0 < (x, y).2 from hy0), ← hy1]] at hst
        have HST := Lib.hid hst
        have R5 := Lib.hid r5
        have HR5 := Lib.hid hr5
        have K5 := Lib.hid k5
        have HIS := Lib.hid his
        have HY := Lib.hid (And.intro hy1 hy0)
        have HB6 : Hid (b2 < b6 ∧ b1 < b6) := Lib.hid (by have := HK.out.size; have := HBB.out; omega)
        clear hst r3 k3 k34 k4 r4 k45 k5 r5 hr5 hpt hsu his hlp hp hy0 hy1
        go_wp2_with fail
        refine HST.out.mono ?_
        rintro e w8 ⟨A8, c8, rfl, ho8, k8⟩
        have hr8 := HR5.out.keeps k8 id
        have g10 : w8.cell? ⟨b1, 0, none⟩ = some (.int .i64 L) := hr8.cell 0
        have g11 : w8.cell? ⟨b1, 1, none⟩ = some (.int .i64 H) := hr8.cell 1
        have g12 : w8.cell? ⟨b1, 2, none⟩ = some (.slice (some ⟨g0, 0, none⟩) n c') := hr8.cell 2
        have q10 := hr8.frozen 0
        have q11 := hr8.frozen 1
        have q12 := hr8.frozen 2
        obtain ⟨w9, hw9⟩ : ∃ V, ((w8.setCell ⟨b1, 0, none⟩ (.int .i64 L)).setCell ⟨b1, 1, none⟩ (.int .i64 H)).setCell ⟨b1, 2, none⟩ (.slice A8 n c8) = V := ⟨_, rfl⟩
        have hr9 : Row w9 b1 30 [.int .i64 L, .int .i64 H, .slice A8 n c8] := by
          rw [← hw9]
          exact ((hr8.set 0 (.int .i64 L)).set 1 (.int .i64 H)).set 2 (.slice A8 n c8)
        have k9 : Keeps (fun j => j = b1) w8 w9 := by rw [← hw9]; exact (((Keeps.refl (fun k => k = b1) w8).setCell (p := ⟨b1, 0, none⟩) (fun _ => rfl) _).setCell (p := ⟨b1, 1, none⟩) (fun _ => rfl) _).setCell (p := ⟨b1, 2, none⟩) (fun _ => rfl) _
        have HP9 : Hid (w9.ownsRow 0 42 2 (.slice A8 n c8) n (pcells (Sc.tks s.ps (i + 1)))) := Lib.hid (k9.owns (own_base ho8 (Nat.zero_le _)) (fun k hk e => by
          obtain ⟨_, _, hbk⟩ := own_block ho8 k hk
          have := HB6.out
          have := K5.out.size
          omega))
        have ho5 := (K5.out.trans k8).owns HO.out (fun _ _ => id)
        have HO9 : Hid (w9.ownsRow b1 3 1 (.slice A2 m c2) m (nvs (Sc.ins s.ps i))) := Lib.hid (k9.owns ho5 (fun k hk e => own_apart ho5 hr8 (by decide) k hk e))
        have K9 : Hid (Keeps (fun j => j = b1) W2 w9) := Lib.hid ((HK.out.trans ((K5.out.trans k8).mono (fun _ _ h => h.elim))).trans k9)
        have h961 : w9.cell? ⟨b6, 1, none⟩ = some (.int .i64 y1) := ((R5.out.keeps k8 id).keeps k9 (fun e => by have := HB6.out; omega)).cell 1
        have HR9 := Lib.hid hr9
        clear ho8 k8 hr8 hr9 k9 ho5 c10 c11 c12 cx cy c60 c61 f60 f61 e60 e61 f4 d60 d61 d10 d11 d12
        by_cases hy2 : y1 = 0
        · have hyz : (y1 == 0) = true := by rw [hy2]; rfl
          have HIS2 : Hid (Sc.ins s.ps (i + 1) = Sc.ins s.ps i ++ [i]) := Lib.hid (by rw [HIS.out, if_pos (show y = 1 by have := HY.out.1; omega)])
          obtain ⟨V1, hV1⟩ : ∃ V, w9.alloc (.cells #[.int .i64 (i : Int)] 3) = V := ⟨_, rfl⟩
          have kv1 : Keeps (fun _ => False) w9 V1 := by rw [← hV1]; exact (Keeps.refl _ _).alloc _
          have rv1 : V1.heap[w9.heap.size]? = some (.cells [Value.int .i64 (i : Int)].toArray 3 (0, 0)) := by rw [← hV1]; exact heap_alloc_new w9 _
          have HBI := Lib.hid (build_int (i : Int) w9)
          rw [hV1] at HBI
          have KV1 := Lib.hid kv1
          have RV1 := Lib.hid rv1
          have HBV : b1 ≤ V1.heap.size := by have := HR9.out.lt; have := KV1.out.size; omega
          clear kv1 rv1 hV1 hy2 HIS
          go_wp2_with (first
            | (refine wpList_buildSlice_run13 (by rfl) 43 1 0 (.tmp 34) (by rfl) _ _ (by rfl) HBI.out ?_)
            | (at_builtin; refine wpList_append_own _ (by rfl) _ _ 43 (by rfl) b1 3 ih zh 1 8 Try.underlying43 HII.out.1 HII.out.2.1 HII.out.2.2.1 HII.out.2.2.2.1 HII.out.2.2.2.2 (by decide) (.slice A2 m c2) m (nvs (Sc.ins s.ps i)) (by rfl) (KV1.out.owns HO9.out (fun _ _ => id)) ⟨w9.heap.size, 0, none⟩ 1 1 [.int .i64 (i : Int)] (by rfl) (by rfl) (World.news_of_block RV1.out) (by intro u hu; cases hu with | head => rfl | tail _ h => cases h) (by unfold maxLen; omega) (by omega) HBV ?_; intro v3 V3 ho3 hg3 _; have HO3 := Lib.hid ho3; have HG3 := Lib.hid hg3; obtain ⟨A3, c3, rfl⟩ := own_slice ho3; clear ho3 hg3))
          have ho2 := KV1.out.owns HO9.out (fun _ _ => id)
          have hrv := HR9.out.keeps KV1.out id
          have kg : Keeps (fun k => (Value.slice A2 m c2).ownBlock = some k) V1 V3 := (Keeps.refl _ _).grown HG3.out (fun _ _ h => h)
          have HRV : Hid (Row V3 b1 30 [.int .i64 L, .int .i64 H, .slice A8 n c8]) := Lib.hid (hrv.keeps kg (fun e => own_apart ho2 hrv (by decide) b1 e rfl))
          have HPV : Hid (V3.ownsRow 0 42 2 (.slice A8 n c8) n (pcells (Sc.tks s.ps (i + 1)))) := Lib.hid (kg.owns (KV1.out.owns HP9.out (fun _ _ => id)) (fun k hk e => by
            obtain ⟨cur, hcu, _⟩ := own_block (KV1.out.owns HP9.out (fun _ _ => id)) k hk
            obtain ⟨cur2, hcu2, _⟩ := own_block ho2 k e
            rw [hcu] at hcu2
            injection hcu2 with hcu2
            injection hcu2 with _ h2
            exact absurd h2 (by decide)))
          have KV3 : Hid (Keeps (fun j => j = b1) W2 V3) := Lib.hid ((K9.out.trans (KV1.out.mono (fun _ _ h => h.elim))).trans' kg (fun k hk e => by
            obtain ⟨cur2, hcu2, hbk⟩ := own_block ho2 k e
            rcases Nat.lt_or_ge k b2 with h1 | h1
            · have := HBB.out
              have h3 : b2 = b1 + 1 := by rw [← hb2, ← hW1, ← hb1]; simp
              omega
            · by_cases h2 : k = b2
              · subst h2
                have hr2 := (((R2.out.keeps K9.out (fun e => by have := HBB.out; omega)).keeps KV1.out id))
                unfold Row at hr2
                rw [hr2] at hcu2
                injection hcu2 with hcu2
                injection hcu2 with _ h3
                exact absurd h3 (by decide)
              · exfalso
                have h3 : W2.heap.size = b2 + 1 := by rw [← hW2, ← hb2]; simp
                omega))
          have HO4 : Hid (V3.ownsRow b1 3 1 (.slice A3 (m + 1) c3) (m + 1) (nvs (Sc.ins s.ps (i + 1)))) := Lib.hid (by rw [HIS2.out, ← nvs_snoc]; exact HO3.out)
          have HM4 : Hid (m + 1 = (Sc.ins s.ps (i + 1)).length) := Lib.hid (by rw [HIS2.out, List.length_append, ← HM.out]; rfl)
          clear ho2 HO3 HG3 kg hrv
          go_roundw
          case rel => exact ⟨i + 1, m + 1, A3, c3, A8, c8, by omega, rfl, by go_num, HM4, HO4, HPV, HRV, KV3⟩
          case measure => simp [intOf]; omega
        · have hyz : (y1 == 0) = false := by simpa using hy2
          have HIS2 : Hid (Sc.ins s.ps (i + 1) = Sc.ins s.ps i) := Lib.hid (by rw [HIS.out, if_neg (show ¬ y = 1 by have := HY.out.1; omega), List.append_nil])
          clear hy2 HIS
          go_wp2
          go_roundw
          case rel => exact ⟨i + 1, m, A2, c2, A8, c8, by omega, rfl, by go_num, Lib.hid (by rw [HIS2.out]; exact HM.out), Lib.hid (by rw [HIS2.out]; exact HO9.out), HP9, HR9, K9⟩
          case measure => simp [intOf]; omega
      · have hyd : decide (y > 0) = false := decide_eq_false hy0
        have htk : Sc.tk (x, y) = (x, y) := if_neg hy0
        have HSU2 : Hid (Sc.tks s.ps (i + 1) = Sc.tks s.ps i) := Lib.hid (by rw [hsu, htk]; exact set_same _ _ _ hpt)
        have HIS2 : Hid (Sc.ins s.ps (i + 1) = Sc.ins s.ps i) := Lib.hid (by rw [his, if_neg (show ¬ y = 1 by omega), List.append_nil])
        have K4 := Lib.hid k4
        clear hy0 htk r3 k3 k34 k4 r4 hpt hsu his hlp hp
        go_wp2
        go_roundw
        case rel => exact ⟨i + 1, m, A2, c2, some ⟨g0, 0, none⟩, c', by omega, rfl, by go_num, Lib.hid (by rw [HIS2.out]; exact HM.out), Lib.hid (by rw [HIS2.out]; exact K4.out.owns HO.out (fun _ _ => id)), Lib.hid (by rw [HSU2.out]; exact K4.out.owns HP.out (fun _ _ => id)), Lib.hid (HR.out.keeps K4.out id), Lib.hid (HK.out.trans (K4.out.mono (fun _ _ h => h.elim)))⟩
        case measure => simp [intOf]; omega
    · obtain rfl : i = n := by omega
      have hr2 := R2.out.keeps HK.out (fun e => by have := HBB.out; omega)
      have c20 : wr.cell? ⟨b2, 0, none⟩ = some (.int .i64 0) := hr2.cell 0
      have c21 : wr.cell? ⟨b2, 1, none⟩ = some (.int .i64 0) := hr2.cell 1
      have c22 : wr.cell? ⟨b2, 2, none⟩ = some (.slice none 0 0) := hr2.cell 2
      have f20 := hr2.frozen 0
      have f21 := hr2.frozen 1
      have f22 := hr2.frozen 2
      obtain ⟨w9, hw9⟩ : ∃ V, ((wr.setCell ⟨b2, 0, none⟩ (.int .i64 L)).setCell ⟨b2, 1, none⟩ (.int .i64 H)).setCell ⟨b2, 2, none⟩ (.slice A' i c') = V := ⟨_, rfl⟩
      have hr9 : Row w9 b2 30 [.int .i64 L, .int .i64 H, .slice A' i c'] := by
        rw [← hw9]
        exact ((hr2.set 0 (.int .i64 L)).set 1 (.int .i64 H)).set 2 (.slice A' i c')
      have k9 : Keeps (fun j => j = b2) wr w9 := by rw [← hw9]; exact (((Keeps.refl (fun k => k = b2) wr).setCell (p := ⟨b2, 0, none⟩) (fun _ => rfl) _).setCell (p := ⟨b2, 1, none⟩) (fun _ => rfl) _).setCell (p := ⟨b2, 2, none⟩) (fun _ => rfl) _
      have R9 : Hid (w9.heap[b2]? = some (.cells (tcs L H A' i c') 30 (0, 0))) := Lib.hid hr9
      have FIN : Hid (m = (Sc.ins s.ps i).length ∧ w9.ownsRow b1 3 1 (.slice A2 m c2) m (nvs (Sc.ins s.ps i)) ∧ w9.ownsRow 0 42 2 (.slice A' i c') i (pcells (Sc.tks s.ps i)) ∧ Keeps (fun _ => False) w w9) := Lib.hid (by
        refine ⟨HM.out, k9.owns HO.out (fun k hk e => own_apart HO.out hr2 (by decide) k hk e), k9.owns HP.out (fun k hk e => own_apart HP.out hr2 (by decide) k hk e), (K2.out.trans' HK.out (fun j hj e => by have := HBB.out; omega)).trans' k9 (fun j hj e => by have := HBB.out; omega)⟩)
      clear hr2 hr9 k9
      go_wp2
      refine bodyPost_ret (results_cell_tmp13 rfl _ _ b2 30 (tcs L H A' i c') (0, 0) _ rfl (by first | exact R9.out | (rw [hw9]; exact R9.out)) Try.underlying30 rfl size_T) rfl ?_
      exact ⟨_, _, _, _, _, rfl, FIN.out.1, by first | exact FIN.out.2.1 | (rw [hb1]; exact FIN.out.2.1) | (rw [hw9, hb1]; exact FIN.out.2.1), by first | exact FIN.out.2.2.1 | (rw [hw9]; exact FIN.out.2.2.1), by first | exact FIN.out.2.2.2 | (rw [hw9]; exact FIN.out.2.2.2)⟩
end Go.Proofs.Ytdihkbkcefjeoaa
