/-
  The document's own table of what is asked for, by value: Start.
-/
import Derived.Test.YthnpgiagajfaiaaFtS
namespace Go.Proofs.Ythnpgiagajfaiaa
open Go.RowKit Go.BigFrame
set_option linter.unusedVariables false
set_option linter.unusedSimpArgs false

/-- What an append onto an own row leaves of what was there ahead of it. -/
theorem own_grow {w : World} {B n size : Nat} {e : TypeId} {v : Value} {xs : List Value} {o : Obj} {w' : World} (h : w.ownsRow B e size v n xs) (hg : (w.alloc o).grownBy w' v.ownBlock) : Keeps (fun k => B ≤ k) w w' := by
  have k1 : Keeps (fun k => B ≤ k) w (w.alloc o) := (Keeps.refl _ _).alloc _
  exact k1.grown hg (fun k hk e => by obtain ⟨_, _, hb⟩ := own_block h k e; exact hb)
set_option maxRecDepth 100000 in
set_option maxHeartbeats 4000000 in
theorem rstart_any (base most budget : Nat) (A : Option Addr) (n c B0 : Nat) (l : List Ft.Q) (k : Ft.Wn) (w : World) (hk : Ft.Wn.Ok k) (hok : ∀ q ∈ l, Ft.Q.Ok q) (ho : w.ownsRow B0 71 68 (.slice A n c) n (qfl l)) (hn : n ≤ 1000) (hB0 : B0 ≤ w.heap.size) :
    Calls Try.prog 13 #[.agg (tcs base most budget (.slice A n c)), .agg (kcs k.1).toArray, .agg (kcs k.2).toArray] w fun e w' => ∃ (A' : Option Addr) (c' : Nat), e = .returned (.tuple #[.agg (tcs base most budget (.slice A' (Ft.start l k).length c')), .bool (!Ft.has l k)]) ∧ Keeps (fun _ => False) w w' ∧ w'.ownsRow B0 71 68 (.slice A' (Ft.start l k).length c') (Ft.start l k).length (qfl (Ft.start l k)) ∧ ∀ b, (Value.slice A' (Ft.start l k).length c').ownBlock = some b → (Value.slice A n c).ownBlock = some b ∨ w.heap.size ≤ b := by
  have HHAS := Lib.hid (fun V (hV : Keeps (fun _ => False) w V) => rhas_any base most budget A n c B0 l k V hk hok (hV.owns ho (fun _ _ => id)) hn)
  obtain ⟨Z, hZ⟩ : ∃ Z, tcs 0 0 0 (.slice none 0 0) = Z := ⟨_, rfl⟩
  have hz : ∀ V : World, (zeroValue 31).run Try.prog V = .ok (.agg Z) V := fun V => by rw [← hZ]; exact zero_T V
  have SZ : Hid ((Try.prog.info? 31).map (·.size) = some Z.size) := Lib.hid (by rw [← hZ]; exact size_T)
  obtain ⟨T, hT⟩ : ∃ T, tcs base most budget (.slice A n c) = T := ⟨_, rfl⟩
  obtain ⟨KO, hKO⟩ : ∃ K, kcs k.1 = K := ⟨_, rfl⟩
  obtain ⟨KN, hKN⟩ : ∃ K, kcs k.2 = K := ⟨_, rfl⟩
  rw [hT, hKO, hKN]
  rw [hT, hKO, hKN] at HHAS
  obtain ⟨b1, hb1⟩ : ∃ x, w.heap.size = x := ⟨_, rfl⟩
  obtain ⟨W1, hW1⟩ : ∃ V, w.alloc (.cells T 31) = V := ⟨_, rfl⟩
  obtain ⟨b2, hb2⟩ : ∃ x, W1.heap.size = x := ⟨_, rfl⟩
  obtain ⟨W2, hW2⟩ : ∃ V, W1.alloc (.cells KO.toArray 39) = V := ⟨_, rfl⟩
  obtain ⟨b3, hb3⟩ : ∃ x, W2.heap.size = x := ⟨_, rfl⟩
  obtain ⟨W3, hW3⟩ : ∃ V, W2.alloc (.cells KN.toArray 39) = V := ⟨_, rfl⟩
  obtain ⟨b4, hb4⟩ : ∃ x, W3.heap.size = x := ⟨_, rfl⟩
  obtain ⟨W4, hW4⟩ : ∃ V, W3.alloc (.cells Z 31) = V := ⟨_, rfl⟩
  have k1 : Keeps (fun _ => False) w W1 := by rw [← hW1]; exact (Keeps.refl _ _).alloc _
  have k2 : Keeps (fun _ => False) W1 W2 := by rw [← hW2]; exact (Keeps.refl _ _).alloc _
  have k3 : Keeps (fun _ => False) W2 W3 := by rw [← hW3]; exact (Keeps.refl _ _).alloc _
  have k4 : Keeps (fun _ => False) W3 W4 := by rw [← hW4]; exact (Keeps.refl _ _).alloc _
  have r1 : Row W4 b1 31 [.int .i64 (base : Int), .int .i64 (most : Int), .int .i64 (budget : Int), .slice A n c] := Row.keeps (w := W1) (by rw [← hW1, ← hb1, ← hT]; exact heap_alloc_new w _) ((k2.trans k3).trans k4) id
  have r2 : W4.heap[b2]? = some (.cells KO.toArray 39 (0, 0)) := ((k3.trans k4).block b2 (by rw [← hW2, ← hb2]; simp) id).trans (by rw [← hW2, ← hb2]; exact heap_alloc_new W1 _)
  have r3 : W4.heap[b3]? = some (.cells KN.toArray 39 (0, 0)) := (k4.block b3 (by rw [← hW3, ← hb3]; simp) id).trans (by rw [← hW3, ← hb3]; exact heap_alloc_new W2 _)
  have r4 : W4.heap[b4]? = some (.cells Z 31 (0, 0)) := by rw [← hW4, ← hb4]; exact heap_alloc_new W3 _
  have rt1 : W4.heap[b1]? = some (.cells T 31 (0, 0)) := by rw [← hT]; exact r1
  have k04 := ((k1.trans k2).trans k3).trans k4
  have HBO : Hid (w.heap.size = b1 ∧ b1 < b2 ∧ b2 < b3 ∧ b3 < b4 ∧ b4 < W4.heap.size) := Lib.hid (by
    have e1 : W1.heap.size = w.heap.size + 1 := by rw [← hW1]; simp
    have e2 : W2.heap.size = W1.heap.size + 1 := by rw [← hW2]; simp
    have e3 : W3.heap.size = W2.heap.size + 1 := by rw [← hW3]; simp
    have e4 : W4.heap.size = W3.heap.size + 1 := by rw [← hW4]; simp
    omega)
  have HR1 := Lib.hid r1
  have HR2 := Lib.hid r2
  have HR3 := Lib.hid r3
  have HR4 := Lib.hid r4
  have HT1 := Lib.hid rt1
  have HO := Lib.hid (k04.owns ho (fun _ _ => id))
  have K4 := Lib.hid k04
  have ST : Hid ((Try.prog.info? 31).map (·.size) = some T.size) := Lib.hid (by rw [← hT]; exact size_T)
  have SZT : Hid (Z.size = T.size) := Lib.hid (by rw [← hZ, ← hT]; rfl)
  have OT : Hid (T.all (·.oneCell') = true) := Lib.hid (by rw [← hT]; exact tcs_one _ _ _ _ _ _)
  have SKO : Hid ((Try.prog.info? 39).map (·.size) = some KO.toArray.size) := Lib.hid (by rw [← hKO, List.size_toArray, kcs_length hk.1.2]; exact info_k)
  have SKN : Hid ((Try.prog.info? 39).map (·.size) = some KN.toArray.size) := Lib.hid (by rw [← hKN, List.size_toArray, kcs_length hk.2.2]; exact info_k)
  have HLL : Hid (l.length = n) := Lib.hid (by have h := ho.1; rw [qfl_length l hok] at h; omega)
  have HOK := Lib.hid hok
  have HKK := Lib.hid (And.intro hk (And.intro hKO hKN))
  have HTT := Lib.hid hT
  clear hT hKO hKN r1 r2 r3 r4 rt1 k1 k2 k3 k4 k04 ho hok hk hZ
  cases hh : Ft.has l k with
  | true =>
    have HST : Hid (Ft.start l k = l) := Lib.hid (by unfold Ft.start; rw [if_pos hh])
    obtain ⟨W6, hW6⟩ : ∃ V : World, V = V := ⟨w, rfl⟩
    clear hW6 W6
    have HH := Lib.hid hh
    rw [hh] at HHAS
    clear hh
    go_enter Try.func13, Try.ntmps13
    go_wp2_with (first
      | (refine wpList_load_row (by rfl) 31 _ (by rfl) b1 (by rfl) 31 T (0, 0) _ HT1.out Try.underlying31 rfl ST.out ?_)
      | (refine wpList_load_row (by rfl) 39 _ (by rfl) b2 (by rfl) 39 KO.toArray (0, 0) _ HR2.out Try.underlying39 rfl SKO.out ?_)
      | (refine wpList_load_row (by rfl) 39 _ (by rfl) b3 (by rfl) 39 KN.toArray (0, 0) _ HR3.out Try.underlying39 rfl SKN.out ?_)
      | fail)
    refine (HHAS.out W4 K4.out).mono ?_
    rintro e w5 ⟨rfl, k5⟩
    have rt5 := (k5.block b1 (Array.getElem?_eq_some_iff.1 HT1.out).1 id).trans HT1.out
    have r45 := (k5.block b4 (Array.getElem?_eq_some_iff.1 HR4.out).1 id).trans HR4.out
    obtain ⟨W6, hW6⟩ : ∃ V, w5.setRow b4 T = V := ⟨_, rfl⟩
    have R6 : Hid (W6.heap[b4]? = some (.cells T 31 (0, 0))) := Lib.hid (by rw [← hW6]; exact setRow_heap _ _ _ _ _ _ r45)
    have k6 : Keeps (fun _ => False) w W6 := (K4.out.trans k5).trans' (T := fun k => k = b4) (by rw [← hW6]; exact Keeps.setRow _ _) (fun i hi e => by have := HBO.out; omega)
    have HO6 := Lib.hid ((Keeps.setRow (w := w5) b4 T).owns (k5.owns HO.out (fun _ _ => id)) (fun b hb e => by
      obtain ⟨cur, hg, _⟩ := own_block (k5.owns HO.out (fun _ _ => id)) b hb
      rw [e, r45] at hg
      injection hg with hg
      injection hg with _ h2
      exact absurd h2 (by decide)))
    have HT5 := Lib.hid rt5
    have HR5 := Lib.hid r45
    have K6 := Lib.hid k6
    clear rt5 r45 k6 k5
    go_wp2_with (first
      | (refine wpList_load_row (by rfl) 31 _ (by rfl) b1 (by rfl) 31 T (0, 0) _ HT5.out Try.underlying31 rfl ST.out ?_)
      | (refine wpList_store_row (by rfl) 31 _ _ (by rfl) b4 T (by rfl) (by rfl) 31 Z HR5.out ST.out SZT.out OT.out ?_; rw [hW6])
      | fail)
    refine bodyPost_ret (results_cell_tmp18 rfl _ _ b4 31 T (0, 0) _ rfl R6.out Try.underlying31 rfl ST.out) rfl ?_
    refine ⟨A, c, ?_, K6.out, ?_, fun b hb => .inl (by cases A with | none => cases hb | some a => exact hb)⟩
    · rw [HST.out, HLL.out, HTT.out]; rfl
    · rw [HST.out, HLL.out]; have h := HO6.out; rw [hW6] at h; exact h
  | false =>
    obtain ⟨q0, hq0⟩ : ∃ q0 : Ft.Q, q0 = ⟨k, 0, 1⟩ := ⟨_, rfl⟩
    have hq0k : Ft.Q.Ok q0 := by rw [hq0]; exact HKK.out.1
    have HST : Hid (Ft.start l k = Ft.ins q0 l) := Lib.hid (by unfold Ft.start; rw [if_neg (by rw [hh]; simp), hq0])
    have hbq := fun V => build_Q1 q0 hq0k V
    have hbn := fun V => build_Qn k HKK.out.1 V
    have hls := fun (a : Ft.Q) (ha : Ft.Q.Ok a) V => rless_any q0 a hq0k ha V
    have hsql : (Try.prog.info? 71).map (·.size) = some (qcs q0).toArray.size := by rw [List.size_toArray, qcs_length hq0k]; exact info_Q
    have hql : (qcs q0).length = 68 := qcs_length hq0k
    have hq1 := qcs_one q0
    have hqs : ∀ o : List Ft.Q, qfl o ++ qcs q0 = qfl (o ++ [q0]) := fun o => qfl_snoc o q0
    rw [← hq0] at hbn
    obtain ⟨QL, hQL⟩ : ∃ L, qcs q0 = L := ⟨_, rfl⟩
    rw [hQL] at hbq hbn hls hsql hql hq1 hqs
    rw [HKK.out.2.1, HKK.out.2.2] at hbn
    have HBQ := Lib.hid (And.intro (And.intro hbq hq1) hql)
    have HBN := Lib.hid hbn
    have HLS0 := Lib.hid hls
    have SQL := Lib.hid hsql
    have HQS := Lib.hid hqs
    have hzq0 := fun V => zero_Qa V
    have hzl : (qcs ⟨((0, List.replicate 32 0), (0, List.replicate 32 0)), 0, 0⟩).toArray.size = 68 := by rw [List.size_toArray]; rfl
    obtain ⟨ZQ, hZQ⟩ : ∃ Z, (qcs ⟨((0, List.replicate 32 0), (0, List.replicate 32 0)), 0, 0⟩).toArray = Z := ⟨_, rfl⟩
    rw [hZQ] at hzl
    have hzq : ∀ V : World, (zeroValue 71).run Try.prog V = .ok (.agg ZQ) V := fun V => by rw [← hZQ]; exact hzq0 V
    have SZQ : Hid (ZQ.size = QL.toArray.size) := Lib.hid (by rw [hzl, List.size_toArray, hql])
    have OQL : Hid (QL.toArray.all (·.oneCell') = true) := Lib.hid (by rw [Array.all_eq_true_iff_forall_mem]; intro v hv; exact hq1 v (by simpa using hv))
    have HH := Lib.hid hh
    rw [hh] at HHAS
    obtain ⟨ih, zh, hih, hzh, hsh, hbh, hzsh⟩ := info_Q_in
    have HII := Lib.hid (And.intro hih (And.intro hzh (And.intro hsh (And.intro hbh hzsh))))
    have HQ0 := Lib.hid (And.intro hq0 hQL)
    have HB0 := Lib.hid hB0
    clear hh hq0 hq0k hbq hbn hls hsql hql hq1 hqs hzq0 hzl hZQ hQL hih hzh hsh hbh hzsh hB0
    go_enter Try.func13, Try.ntmps13
    go_wp2_with (first
      | (refine wpList_load_row (by rfl) 31 _ (by rfl) b1 (by rfl) 31 T (0, 0) _ HT1.out Try.underlying31 rfl ST.out ?_)
      | (refine wpList_load_row (by rfl) 39 _ (by rfl) b2 (by rfl) 39 KO.toArray (0, 0) _ HR2.out Try.underlying39 rfl SKO.out ?_)
      | (refine wpList_load_row (by rfl) 39 _ (by rfl) b3 (by rfl) 39 KN.toArray (0, 0) _ HR3.out Try.underlying39 rfl SKN.out ?_)
      | fail)
    refine (HHAS.out W4 K4.out).mono ?_
    rintro e w5 ⟨rfl, k5⟩
    have hsz5 := k5.size
    obtain ⟨b5, hb5⟩ : ∃ x, w5.heap.size = x := ⟨_, rfl⟩
    obtain ⟨W6, hW6⟩ : ∃ V, w5.alloc (.cells ZQ 71) = V := ⟨_, rfl⟩
    have k6 : Keeps (fun _ => False) w5 W6 := by rw [← hW6]; exact (Keeps.refl _ _).alloc _
    have r56 : W6.heap[b5]? = some (.cells ZQ 71 (0, 0)) := by rw [← hW6, ← hb5]; exact heap_alloc_new w5 _
    obtain ⟨W7, hW7⟩ : ∃ V, W6.setRow b5 QL.toArray = V := ⟨_, rfl⟩
    have r57 : W7.heap[b5]? = some (.cells QL.toArray 71 (0, 0)) := by rw [← hW7]; exact setRow_heap _ _ _ _ _ _ r56
    have k47 : Keeps (fun _ => False) W4 W7 := (k5.trans k6).trans' (T := fun j => j = b5) (by rw [← hW7]; exact Keeps.setRow _ _) (fun i hi e => by omega)
    have hs7 : W7.heap.size = b5 + 1 := by rw [← hW7, ← hW6, ← hb5]; simp
    have h25 := (k5.block b2 (Array.getElem?_eq_some_iff.1 HR2.out).1 id).trans HR2.out
    have h35 := (k5.block b3 (Array.getElem?_eq_some_iff.1 HR3.out).1 id).trans HR3.out
    have H25 := Lib.hid h25
    have H35 := Lib.hid h35
    have R56 := Lib.hid r56
    have R57 := Lib.hid r57
    have K47 := Lib.hid k47
    have HS7 := Lib.hid (And.intro hs7 (show b4 < b5 by have := HBO.out; omega))
    clear h25 h35 r56 r57 k47 hs7 k5 k6 hsz5
    go_wp2_with (first
      | (refine wpList_load_row (by rfl) 39 _ (by rfl) b2 (by rfl) 39 KO.toArray (0, 0) _ H25.out Try.underlying39 rfl SKO.out ?_)
      | (refine wpList_load_row (by rfl) 39 _ (by rfl) b3 (by rfl) 39 KN.toArray (0, 0) _ H35.out Try.underlying39 rfl SKN.out ?_)
      | (refine wpList_made (by rfl) 71 [(0, .tmp 19), (1, .tmp 20), (3, .const (.int .i64 1))] (by rfl) [(0, .agg KO.toArray), (1, .agg KN.toArray), (3, .int .i64 1)] (by rfl) (.agg QL.toArray) HBN.out ?_)
      | (refine wpList_store_row (by rfl) 71 _ _ (by rfl) b5 QL.toArray (by rfl) (by rfl) 71 ZQ R56.out SQL.out SZQ.out OQL.out ?_; rw [hW7])
      | fail)
    obtain ⟨B, hB⟩ : ∃ B, W7.heap.size = B := ⟨_, rfl⟩
    have HBE := Lib.hid (show W7.heap.size = B ∧ B = b5 + 1 ∧ b4 < b5 ∧ b1 < b2 ∧ b2 < b3 ∧ b3 < b4 ∧ w.heap.size = b1 by have := HS7.out; have := HBO.out; omega)
    have P0 : Hid (Ft.Part q0 l 0 false []) := Lib.hid (Ft.Part.zero q0 l)
    have hb1B : b1 < B := by have := HBE.out; omega
    have hb5B : b5 < B := by have := HBE.out; omega
    clear hB
    go_loopw [10, 11, 12] (fun lv dv iv wr => ∃ (i m : Nat) (d : Bool) (o : List Ft.Q) (A2 : Option Addr) (c2 : Nat), i ≤ n ∧ lv = .slice A2 m c2 ∧ dv = .bool d ∧ iv = .int .i64 (i : Int) ∧ Hid (Ft.Part q0 l i d o) ∧ Hid (m = o.length ∧ m ≤ i + 1) ∧ Hid (wr.ownsRow B 71 68 (.slice A2 m c2) m (qfl o)) ∧ Hid (Keeps (fun j => B ≤ j) W7 wr)) (fun _ _ iv _ => n - (intOf iv).toNat)
    case atStart => exact ⟨0, 0, false, [], none, 0, by omega, rfl, rfl, rfl, P0, Lib.hid ⟨rfl, by omega⟩, Lib.hid (World.ownsRow_nil _ _ _ _), Lib.hid (Keeps.refl _ _)⟩
    case round =>
      obtain ⟨i, m, d, o, A2, c2, hi, rfl, rfl, rfl, HP, HM, HOO, HKB⟩ := hrel
      have kw : Keeps (fun j => B ≤ j) W4 wr := (K47.out.mono (fun _ _ h => h.elim)).trans HKB.out
      have r1w := Row.keeps HR1.out kw (by omega)
      have hl0 : wr.cell? ⟨b1, 3, none⟩ = some (.slice A n c) := r1w.cell 3
      have HR1W := Lib.hid r1w
      have HOW := Lib.hid (kw.owns HO.out (fun b hb e => by
        obtain ⟨_, hg, _⟩ := own_block HO.out b hb
        have h1 := (Array.getElem?_eq_some_iff.1 hg).1
        have h2 := K47.out.size
        have h3 := HBE.out
        omega))
      have HBV : Hid (B ≤ wr.heap.size) := Lib.hid (by have := HKB.out.size; have := HBE.out; omega)
      clear r1w kw
      by_cases hlt : i < n
      · have hii : (i : Int) < (n : Int) := by omega
        obtain ⟨g, rfl⟩ := own_some18 (g := 0) HOW.out (by omega)
        have HGB : Hid (g < B) := Lib.hid (by
          obtain ⟨_, hg, _⟩ := own_block HO.out g rfl
          have h1 := (Array.getElem?_eq_some_iff.1 hg).1
          have h2 := K47.out.size
          have h3 := HBE.out
          omega)
        obtain ⟨a, ha⟩ : ∃ a, l[i]? = some a := ⟨_, List.getElem?_eq_getElem (by have := HLL.out; omega)⟩
        have haok := HOK.out a (List.mem_of_getElem? ha)
        have hal := own_q HOW.out HOK.out ha
        have hls := HLS0.out a haok
        have hba := fun V => build_Q1 a haok V
        have hsa : (Try.prog.info? 71).map (·.size) = some (qcs a).length := by rw [qcs_length haok]; exact info_Q
        have hala : (qcs a).length = 68 := qcs_length haok
        have ha1 := qcs_one a
        obtain ⟨AL, hAL⟩ : ∃ L, qcs a = L := ⟨_, rfl⟩
        rw [hAL] at hal hls hba hsa hala ha1
        obtain ⟨x, hx⟩ : ∃ x, Ft.wless q0.key a.key = x := ⟨_, rfl⟩
        rw [hx] at hls
        have HBA := Lib.hid (And.intro (And.intro hba ha1) hala)
        have SAL := Lib.hid hsa
        have HA := Lib.hid (And.intro ha (And.intro hAL hx))
        have HC3 : Hid (∀ V, Later wr V → V.cell? ⟨b1, 3, none⟩ = some (.slice (some ⟨g, 0, none⟩) n c)) := Lib.hid (fun V hV => (HR1W.out.keeps hV.out id).cell 3)
        have HAL : Hid (∀ V, Later wr V → V.rangeAt g (i * 68) AL) := Lib.hid (fun V hV => range_keeps17 hal hV.out id)
        have HQ5 : Hid (∀ V, Later wr V → V.heap[b5]? = some (.cells QL.toArray 71 (0, 0))) := Lib.hid (fun V hV => (hV.out.block b5 (by have := HBV.out; omega) id).trans ((HKB.out.block b5 (by have := HBE.out; omega) (by omega)).trans R57.out))
        have HLS : Hid (∀ V, Later wr V → Calls Try.prog 23 #[.agg QL.toArray, .agg AL.toArray] V fun e w' => e = .returned (.bool x) ∧ Later wr w') := Lib.hid (fun V hV => (hls V).mono (fun e w' h => ⟨h.1, ⟨hV.out.trans h.2⟩⟩))
        have hm9 : m ≤ 1001 := by have := HM.out; omega
        clear ha haok hal hls hba hsa hala ha1 hAL hx
        cases d with
        | true =>
          go_wp2_with fail
          refine wp_region_class (Later wr) (by kernel_rfl) (by kernel_rfl) (⟨(Keeps.refl _ _).drew⟩) ?_
          refine class_value (by rfl) (.bool true) (fun V hV => by go_simp) ?_
          simp only [Act.put, List.setIfInBounds_toArray, List.set_cons_zero, List.set_cons_succ]
          refine class_value (by rfl) (.bool false) (fun V hV => by go_simp) ?_
          simp only [Act.put, List.setIfInBounds_toArray, List.set_cons_zero, List.set_cons_succ]
          refine class_value (by rfl) (.bool false) (fun V hV => by go_simp) ?_
          simp only [Act.put, List.setIfInBounds_toArray, List.set_cons_zero, List.set_cons_succ]
          go_big_quiet_skip
          go_big_quiet_skip
          go_big_quiet_skip
          go_big_quiet_skip
          go_big_quiet_skip
          go_big_quiet_skip
          go_big_quiet_skip
          refine class_value (by rfl) (.bool false) (fun V hV => by go_simp) ?_
          simp only [Act.put, List.setIfInBounds_toArray, List.set_cons_zero, List.set_cons_succ]
          refine wpQuiet_nil ?_
          intro w8 k8
          have HK8 := Lib.hid (HKB.out.trans' k8.out (fun _ _ h => h.elim))
          have HO8 := Lib.hid (k8.out.owns HOO.out (fun _ _ => id))
          have HB8 := Lib.hid (Nat.le_trans HBV.out k8.out.size)
          have HR8 := Lib.hid (HR1W.out.keeps k8.out id)
          have HAL8 := Lib.hid (HAL.out w8 k8)
          have HQ8 := Lib.hid (HQ5.out w8 k8)
          have hl8 : w8.cell? ⟨b1, 3, none⟩ = some (.slice (some ⟨g, 0, none⟩) n c) := HR8.out.cell 3
          clear k8 HC3 HAL HQ5 HLS
          go_wp2_with (first
            | (refine wpList_load_mid_w17 (by rfl) 71 (.tmp 48) (by rfl) g (i * 68) (by rfl) AL _ HAL8.out Try.underlying71 rfl SAL.out ?_)
            | (refine wpList_build1_18 (by rfl) 29 1 0 _ (by rfl) (.agg AL.toArray) _ (by rfl) (HBA.out.1.1 w8) ?_)
            | (refine wpList_append_own _ (by rfl) _ _ 29 (by rfl) B 71 ih zh 68 96 Try.underlying29 HII.out.1 HII.out.2.1 HII.out.2.2.1 HII.out.2.2.2.1 HII.out.2.2.2.2 (by decide) (.slice A2 (m) c2) (m) (qfl (o)) (by rfl) (((Keeps.refl (fun _ => False) w8).alloc _).owns HO8.out (fun _ _ => id)) ⟨w8.heap.size, 0, none⟩ 1 1 AL (by rfl) (by have := HBA.out.2; omega) (World.news_of_block (heap_alloc_new w8 _)) HBA.out.1.2 (by unfold maxLen; omega) (by omega) (by have := HB8.out; simp; omega) ?_; intro v3 V3 ho3 hg3 _; have HO3 := Lib.hid ho3; have K3 := Lib.hid (own_grow HO8.out hg3); obtain ⟨A3, c3, rfl⟩ := own_slice ho3; have HBV3 := Lib.hid (show B ≤ V3.heap.size by have h1 := hg3.size; have h2 := HB8.out; simp at h1; omega); clear ho3 hg3)
            | fail)
          go_roundw
          case rel => exact ⟨i + 1, m + 1, true, o ++ [a], A3, c3, by omega, rfl, rfl, by go_num, Lib.hid (Ft.Part.next HA.out.1 HP.out), Lib.hid ⟨by rw [List.length_append, ← HM.out.1]; rfl, by have := HM.out; omega⟩, Lib.hid (by rw [← qfl_snoc, HA.out.2.1]; exact HO3.out), Lib.hid (HK8.out.trans K3.out)⟩
          case measure => simp [intOf]; omega
        | false =>
          cases x with
          | true =>
            go_wp2_with fail
            refine wp_region_class (Later wr) (by kernel_rfl) (by kernel_rfl) (⟨(Keeps.refl _ _).drew⟩) ?_
            refine class_value (by rfl) (.bool false) (fun V hV => by go_simp) ?_
            simp only [Act.put, List.setIfInBounds_toArray, List.set_cons_zero, List.set_cons_succ]
            refine class_value (by rfl) (.bool true) (fun V hV => by go_simp) ?_
            simp only [Act.put, List.setIfInBounds_toArray, List.set_cons_zero, List.set_cons_succ]
            refine class_value (by rfl) (.bool true) (fun V hV => by go_simp) ?_
            simp only [Act.put, List.setIfInBounds_toArray, List.set_cons_zero, List.set_cons_succ]
            refine class_load (by rfl) 71 (.tmp 9) (by rfl) b5 (by rfl) _ QL.toArray _ _ (fun V hV => HQ5.out V hV) Try.underlying71 rfl SQL.out ?_
            simp only [Act.put, List.setIfInBounds_toArray, List.set_cons_zero, List.set_cons_succ]
            refine class_value (by rfl) (.pointer (some ⟨b1, 3, none⟩)) (fun V hV => by go_simp) ?_
            simp only [Act.put, List.setIfInBounds_toArray, List.set_cons_zero, List.set_cons_succ]
            refine class_cell (by rfl) 29 (.tmp 33) (by rfl) ⟨b1, 3, none⟩ (by rfl) (.slice (some ⟨g, 0, none⟩) n c) _ (fun V hV => HC3.out V hV) Try.underlying29 rfl ?_
            simp only [Act.put, List.setIfInBounds_toArray, List.set_cons_zero, List.set_cons_succ]
            refine class_value (by rfl) (.int .i64 (i : Int)) (fun V hV => by go_simp) ?_
            simp only [Act.put, List.setIfInBounds_toArray, List.set_cons_zero, List.set_cons_succ]
            refine class_value (by rfl) (.pointer (some ⟨g, i * 68, none⟩)) (fun V hV => by go_simp) ?_
            simp only [Act.put, List.setIfInBounds_toArray, List.set_cons_zero, List.set_cons_succ]
            refine class_mid (by rfl) 71 (.tmp 36) (by rfl) g (i * 68) (by rfl) AL _ (fun V hV => HAL.out V hV) Try.underlying71 rfl SAL.out ?_
            simp only [Act.put, List.setIfInBounds_toArray, List.set_cons_zero, List.set_cons_succ]
            refine class_callW (by rfl) _ _ (.bool true) (fun _ => by go_simp) (fun V hV => HLS.out V hV) ?_
            simp only [Act.put, List.setIfInBounds_toArray, List.set_cons_zero, List.set_cons_succ]
            refine class_value (by rfl) (.bool true) (fun V hV => by go_simp) ?_
            simp only [Act.put, List.setIfInBounds_toArray, List.set_cons_zero, List.set_cons_succ]
            refine wpQuiet_nil ?_
            intro w8 k8
            have HK8 := Lib.hid (HKB.out.trans' k8.out (fun _ _ h => h.elim))
            have HO8 := Lib.hid (k8.out.owns HOO.out (fun _ _ => id))
            have HB8 := Lib.hid (Nat.le_trans HBV.out k8.out.size)
            have HR8 := Lib.hid (HR1W.out.keeps k8.out id)
            have HAL8 := Lib.hid (HAL.out w8 k8)
            have HQ8 := Lib.hid (HQ5.out w8 k8)
            have hl8 : w8.cell? ⟨b1, 3, none⟩ = some (.slice (some ⟨g, 0, none⟩) n c) := HR8.out.cell 3
            clear k8 HC3 HAL HQ5 HLS
            go_wp2_with (first
              | (refine wpList_load_row (by rfl) 71 _ (by rfl) b5 (by rfl) 71 QL.toArray (0, 0) _ HQ8.out Try.underlying71 rfl SQL.out ?_)
              | (refine wpList_build1_18 (by rfl) 29 1 0 _ (by rfl) (.agg QL.toArray) _ (by rfl) (HBQ.out.1.1 w8) ?_)
              | (refine wpList_append_own _ (by rfl) _ _ 29 (by rfl) B 71 ih zh 68 96 Try.underlying29 HII.out.1 HII.out.2.1 HII.out.2.2.1 HII.out.2.2.2.1 HII.out.2.2.2.2 (by decide) (.slice A2 (m) c2) (m) (qfl (o)) (by rfl) (((Keeps.refl (fun _ => False) w8).alloc _).owns HO8.out (fun _ _ => id)) ⟨w8.heap.size, 0, none⟩ 1 1 QL (by rfl) (by have := HBQ.out.2; omega) (World.news_of_block (heap_alloc_new w8 _)) HBQ.out.1.2 (by unfold maxLen; omega) (by omega) (by have := HB8.out; simp; omega) ?_; intro v5 V5 ho5 hg5 _; have HO5 := Lib.hid ho5; have K5 := Lib.hid (own_grow HO8.out hg5); obtain ⟨A5, c5, rfl⟩ := own_slice ho5; have HBV5 := Lib.hid (show B ≤ V5.heap.size by have h1 := hg5.size; have h2 := HB8.out; simp at h1; omega); clear ho5 hg5; have hl5 : V5.cell? ⟨b1, 3, none⟩ = some (.slice (some ⟨g, 0, none⟩) n c) := (HR8.out.keeps K5.out (by omega)).cell 3; have HAL5 := Lib.hid (range_keeps17 HAL8.out K5.out (by have := HGB.out; omega)); have HO5q : Hid (V5.ownsRow B 71 68 (.slice A5 (m + 1) c5) (m + 1) (qfl (o ++ [q0]))) := Lib.hid (by rw [← HQS.out]; exact HO5.out))
              | (refine wpList_load_mid_w17 (by rfl) 71 (.tmp 48) (by rfl) g (i * 68) (by rfl) AL _ HAL5.out Try.underlying71 rfl SAL.out ?_)
              | (refine wpList_build1_18 (by rfl) 29 1 0 _ (by rfl) (.agg AL.toArray) _ (by rfl) (HBA.out.1.1 V5) ?_)
              | (refine wpList_append_own _ (by rfl) _ _ 29 (by rfl) B 71 ih zh 68 96 Try.underlying29 HII.out.1 HII.out.2.1 HII.out.2.2.1 HII.out.2.2.2.1 HII.out.2.2.2.2 (by decide) (.slice A5 (m + 1) c5) (m + 1) (qfl (o ++ [q0])) (by rfl) (((Keeps.refl (fun _ => False) V5).alloc _).owns HO5q.out (fun _ _ => id)) ⟨V5.heap.size, 0, none⟩ 1 1 AL (by rfl) (by have := HBA.out.2; omega) (World.news_of_block (heap_alloc_new V5 _)) HBA.out.1.2 (by unfold maxLen; omega) (by omega) (by have := HBV5.out; simp; omega) ?_; intro v3 V3 ho3 hg3 _; have HO3 := Lib.hid ho3; have K3 := Lib.hid (own_grow HO5q.out hg3); obtain ⟨A3, c3, rfl⟩ := own_slice ho3; have HBV3 := Lib.hid (show B ≤ V3.heap.size by have h1 := hg3.size; have h2 := HBV5.out; simp at h1; omega); clear ho3 hg3)
              | fail)
            go_roundw
            case rel => exact ⟨i + 1, m + 1 + 1, true, o ++ [q0] ++ [a], A3, c3, by omega, rfl, rfl, by go_num, Lib.hid (Ft.Part.here HA.out.1 HP.out HA.out.2.2), Lib.hid ⟨by rw [List.length_append, List.length_append, ← HM.out.1]; rfl, by have := (Ft.Part.len_not HP.out); have := HM.out; omega⟩, Lib.hid (by rw [← qfl_snoc, HA.out.2.1]; exact HO3.out), Lib.hid ((HK8.out.trans K5.out).trans K3.out)⟩
            case measure => simp [intOf]; omega
          | false =>
            go_wp2_with fail
            refine wp_region_class (Later wr) (by kernel_rfl) (by kernel_rfl) (⟨(Keeps.refl _ _).drew⟩) ?_
            refine class_value (by rfl) (.bool false) (fun V hV => by go_simp) ?_
            simp only [Act.put, List.setIfInBounds_toArray, List.set_cons_zero, List.set_cons_succ]
            refine class_value (by rfl) (.bool true) (fun V hV => by go_simp) ?_
            simp only [Act.put, List.setIfInBounds_toArray, List.set_cons_zero, List.set_cons_succ]
            refine class_value (by rfl) (.bool true) (fun V hV => by go_simp) ?_
            simp only [Act.put, List.setIfInBounds_toArray, List.set_cons_zero, List.set_cons_succ]
            refine class_load (by rfl) 71 (.tmp 9) (by rfl) b5 (by rfl) _ QL.toArray _ _ (fun V hV => HQ5.out V hV) Try.underlying71 rfl SQL.out ?_
            simp only [Act.put, List.setIfInBounds_toArray, List.set_cons_zero, List.set_cons_succ]
            refine class_value (by rfl) (.pointer (some ⟨b1, 3, none⟩)) (fun V hV => by go_simp) ?_
            simp only [Act.put, List.setIfInBounds_toArray, List.set_cons_zero, List.set_cons_succ]
            refine class_cell (by rfl) 29 (.tmp 33) (by rfl) ⟨b1, 3, none⟩ (by rfl) (.slice (some ⟨g, 0, none⟩) n c) _ (fun V hV => HC3.out V hV) Try.underlying29 rfl ?_
            simp only [Act.put, List.setIfInBounds_toArray, List.set_cons_zero, List.set_cons_succ]
            refine class_value (by rfl) (.int .i64 (i : Int)) (fun V hV => by go_simp) ?_
            simp only [Act.put, List.setIfInBounds_toArray, List.set_cons_zero, List.set_cons_succ]
            refine class_value (by rfl) (.pointer (some ⟨g, i * 68, none⟩)) (fun V hV => by go_simp) ?_
            simp only [Act.put, List.setIfInBounds_toArray, List.set_cons_zero, List.set_cons_succ]
            refine class_mid (by rfl) 71 (.tmp 36) (by rfl) g (i * 68) (by rfl) AL _ (fun V hV => HAL.out V hV) Try.underlying71 rfl SAL.out ?_
            simp only [Act.put, List.setIfInBounds_toArray, List.set_cons_zero, List.set_cons_succ]
            refine class_callW (by rfl) _ _ (.bool false) (fun _ => by go_simp) (fun V hV => HLS.out V hV) ?_
            simp only [Act.put, List.setIfInBounds_toArray, List.set_cons_zero, List.set_cons_succ]
            refine class_value (by rfl) (.bool false) (fun V hV => by go_simp) ?_
            simp only [Act.put, List.setIfInBounds_toArray, List.set_cons_zero, List.set_cons_succ]
            refine wpQuiet_nil ?_
            intro w8 k8
            have HK8 := Lib.hid (HKB.out.trans' k8.out (fun _ _ h => h.elim))
            have HO8 := Lib.hid (k8.out.owns HOO.out (fun _ _ => id))
            have HB8 := Lib.hid (Nat.le_trans HBV.out k8.out.size)
            have HR8 := Lib.hid (HR1W.out.keeps k8.out id)
            have HAL8 := Lib.hid (HAL.out w8 k8)
            have HQ8 := Lib.hid (HQ5.out w8 k8)
            have hl8 : w8.cell? ⟨b1, 3, none⟩ = some (.slice (some ⟨g, 0, none⟩) n c) := HR8.out.cell 3
            clear k8 HC3 HAL HQ5 HLS
            go_wp2_with (first
              | (refine wpList_load_mid_w17 (by rfl) 71 (.tmp 48) (by rfl) g (i * 68) (by rfl) AL _ HAL8.out Try.underlying71 rfl SAL.out ?_)
              | (refine wpList_build1_18 (by rfl) 29 1 0 _ (by rfl) (.agg AL.toArray) _ (by rfl) (HBA.out.1.1 w8) ?_)
              | (refine wpList_append_own _ (by rfl) _ _ 29 (by rfl) B 71 ih zh 68 96 Try.underlying29 HII.out.1 HII.out.2.1 HII.out.2.2.1 HII.out.2.2.2.1 HII.out.2.2.2.2 (by decide) (.slice A2 (m) c2) (m) (qfl (o)) (by rfl) (((Keeps.refl (fun _ => False) w8).alloc _).owns HO8.out (fun _ _ => id)) ⟨w8.heap.size, 0, none⟩ 1 1 AL (by rfl) (by have := HBA.out.2; omega) (World.news_of_block (heap_alloc_new w8 _)) HBA.out.1.2 (by unfold maxLen; omega) (by omega) (by have := HB8.out; simp; omega) ?_; intro v3 V3 ho3 hg3 _; have HO3 := Lib.hid ho3; have K3 := Lib.hid (own_grow HO8.out hg3); obtain ⟨A3, c3, rfl⟩ := own_slice ho3; have HBV3 := Lib.hid (show B ≤ V3.heap.size by have h1 := hg3.size; have h2 := HB8.out; simp at h1; omega); clear ho3 hg3)
              | fail)
            go_roundw
            case rel => exact ⟨i + 1, m + 1, false, o ++ [a], A3, c3, by omega, rfl, rfl, by go_num, Lib.hid (Ft.Part.not HA.out.1 HP.out HA.out.2.2), Lib.hid ⟨by rw [List.length_append, ← HM.out.1]; rfl, by have := HM.out; omega⟩, Lib.hid (by rw [← qfl_snoc, HA.out.2.1]; exact HO3.out), Lib.hid (HK8.out.trans K3.out)⟩
            case measure => simp [intOf]; omega
      · obtain rfl : i = n := by omega
        have hB0B : B0 ≤ B := by have := HB0.out; have := HBE.out; omega
        cases d with
        | true =>
          have hins := Ft.Part.all_in (by have := HLL.out; omega) HP.out
          have hm := HM.out.1
          rw [hins] at hm
          have HO9 : Hid (wr.ownsRow B 71 68 (.slice A2 m c2) m (qfl (Ft.ins q0 l))) := Lib.hid (by rw [← hins]; exact HOO.out)
          clear hins
          obtain ⟨T9, hT9⟩ : ∃ T, tcs base most budget (.slice A2 m c2) = T := ⟨_, rfl⟩
          obtain ⟨W9, hW9⟩ : ∃ V, wr.setCell ⟨b1, 3, none⟩ (.slice A2 m c2) = V := ⟨_, rfl⟩
          have f9 : wr.frozen? ⟨b1, 3, none⟩ = false := HR1W.out.frozen 3
          have rt9 : W9.heap[b1]? = some (.cells T9 31 (0, 0)) := by rw [← hW9, ← hT9]; exact HR1W.out.set 3 _
          have k79 : Keeps (fun j => B ≤ j ∨ j = b1) W7 W9 := (HKB.out.mono (fun _ _ h => Or.inl h)).trans (by rw [← hW9]; exact (Keeps.refl (fun j => B ≤ j ∨ j = b1) wr).setCell (p := ⟨b1, 3, none⟩) (fun _ => Or.inr rfl) _)
          have r49 : W9.heap[b4]? = some (.cells Z 31 (0, 0)) := ((k79.block b4 (by have := HBE.out; omega) (by have := HBE.out; omega)).trans (K47.out.block b4 (by have := HBO.out; omega) id)).trans HR4.out
          obtain ⟨W10, hW10⟩ : ∃ V, W9.setRow b4 T9 = V := ⟨_, rfl⟩
          have R10 : Hid (W10.heap[b4]? = some (.cells T9 31 (0, 0))) := Lib.hid (by rw [← hW10]; exact setRow_heap _ _ _ _ _ _ r49)
          have K10 : Hid (Keeps (fun _ => False) w W10) := Lib.hid ((((K4.out.trans K47.out).trans' k79 (fun j hj e => by have := HBE.out; omega))).trans' (T := fun j => j = b4) (by rw [← hW10]; exact Keeps.setRow _ _) (fun j hj e => by have := HBE.out; omega))
          have HO10 : Hid (W10.ownsRow B0 71 68 (.slice A2 m c2) (m) (qfl (Ft.ins q0 l))) := Lib.hid (by
            have k1 : Keeps (fun j => j = b1 ∨ j = b4) wr W10 := ((by rw [← hW9]; exact (Keeps.refl (fun j => j = b1 ∨ j = b4) wr).setCell (p := ⟨b1, 3, none⟩) (fun _ => Or.inl rfl) _) : Keeps (fun j => j = b1 ∨ j = b4) wr W9).trans (by rw [← hW10]; exact (Keeps.setRow b4 T9).mono (fun _ _ h => Or.inr h))
            exact own_base (k1.owns HO9.out (fun b hb e => by obtain ⟨_, _, h⟩ := own_block HO9.out b hb; have := HBE.out; omega)) (by have := HB0.out; have := HBE.out; omega))
          have HO11 : Hid (W10.ownsRow w.heap.size 71 68 (.slice A2 m c2) (m) (qfl (Ft.ins q0 l))) := Lib.hid (by
            have k1 : Keeps (fun j => j = b1 ∨ j = b4) wr W10 := ((by rw [← hW9]; exact (Keeps.refl (fun j => j = b1 ∨ j = b4) wr).setCell (p := ⟨b1, 3, none⟩) (fun _ => Or.inl rfl) _) : Keeps (fun j => j = b1 ∨ j = b4) wr W9).trans (by rw [← hW10]; exact (Keeps.setRow b4 T9).mono (fun _ _ h => Or.inr h))
            exact own_base (k1.owns HO9.out (fun b hb e => by obtain ⟨_, _, h⟩ := own_block HO9.out b hb; have := HBE.out; omega)) (by have := HBE.out; omega))
          have S9 : Hid ((Try.prog.info? 31).map (·.size) = some T9.size) := Lib.hid (by rw [← hT9]; exact size_T)
          have SZ9 : Hid (Z.size = T9.size) := Lib.hid (by have h1 := SZ.out; have h2 := S9.out; rw [h1] at h2; injection h2)
          have O9 : Hid (T9.all (·.oneCell') = true) := Lib.hid (by rw [← hT9]; exact tcs_one _ _ _ _ _ _)
          have RT9 := Lib.hid rt9
          have R49 := Lib.hid r49
          have HT9 := Lib.hid hT9
          have HLEN := Lib.hid hm
          clear rt9 k79 r49 hT9 hm
          go_wp2_with (first
            | (refine wpList_load_row (by rfl) 31 _ (by rfl) b1 (by rfl) 31 T9 (0, 0) _ RT9.out Try.underlying31 rfl S9.out ?_)
            | (refine wpList_store_row (by rfl) 31 _ _ (by rfl) b4 T9 (by rfl) (by rfl) 31 Z R49.out S9.out SZ9.out O9.out ?_; rw [hW10])
            | fail)
          refine bodyPost_ret (results_cell_tmp18 rfl _ _ b4 31 T9 (0, 0) _ rfl R10.out Try.underlying31 rfl S9.out) rfl ?_
          refine ⟨A2, c2, ?_, K10.out, ?_, fun b hb => .inr (by rw [HST.out, ← HLEN.out] at hb; obtain ⟨_, _, h⟩ := own_block HO11.out b hb; exact h)⟩
          · rw [HST.out, ← HLEN.out, HT9.out]; rfl
          · rw [HST.out, ← HLEN.out]; exact HO10.out
        | false =>
          have hins := Ft.Part.all_not (by have := HLL.out; omega) HP.out
          have hm : m + 1 = (Ft.ins q0 l).length := by rw [← hins, List.length_append, ← HM.out.1]; rfl
          have HQ8 : Hid (wr.heap[b5]? = some (.cells QL.toArray 71 (0, 0))) := Lib.hid ((HKB.out.block b5 (by have := HBE.out; omega) (by omega)).trans R57.out)
          have hm9 : m ≤ 1001 := by have := HM.out; omega
          have HINS := Lib.hid (And.intro hins hm)
          clear hins hm
          go_wp2_with (first
            | (refine wpList_load_row (by rfl) 71 _ (by rfl) b5 (by rfl) 71 QL.toArray (0, 0) _ HQ8.out Try.underlying71 rfl SQL.out ?_)
            | (refine wpList_build1_18 (by rfl) 29 1 0 _ (by rfl) (.agg QL.toArray) _ (by rfl) (HBQ.out.1.1 wr) ?_)
            | (refine wpList_append_own _ (by rfl) _ _ 29 (by rfl) B 71 ih zh 68 96 Try.underlying29 HII.out.1 HII.out.2.1 HII.out.2.2.1 HII.out.2.2.2.1 HII.out.2.2.2.2 (by decide) (.slice A2 (m) c2) (m) (qfl (o)) (by rfl) (((Keeps.refl (fun _ => False) wr).alloc _).owns HOO.out (fun _ _ => id)) ⟨wr.heap.size, 0, none⟩ 1 1 QL (by rfl) (by have := HBQ.out.2; omega) (World.news_of_block (heap_alloc_new wr _)) HBQ.out.1.2 (by unfold maxLen; omega) (by omega) (by have := HBV.out; simp; omega) ?_; intro v5 V5 ho5 hg5 _; have HO5 := Lib.hid ho5; have K5 := Lib.hid (own_grow HOO.out hg5); obtain ⟨A5, c5, rfl⟩ := own_slice ho5; have HBV5 := Lib.hid (show B ≤ V5.heap.size by have h1 := hg5.size; have h2 := HBV.out; simp at h1; omega); clear ho5 hg5; have HO9 : Hid (V5.ownsRow B 71 68 (.slice A5 (m + 1) c5) (m + 1) (qfl (Ft.ins q0 l))) := Lib.hid (by rw [← HINS.out.1, ← HQS.out]; exact HO5.out); have HR5 := Lib.hid (HR1W.out.keeps K5.out (by omega)); have HK5 := Lib.hid (HKB.out.trans K5.out); have hl5 : V5.cell? ⟨b1, 3, none⟩ = some (.slice A i c) := HR5.out.cell 3; have hm5 := HINS.out.2; obtain ⟨T9, hT9⟩ : ∃ T, tcs base most budget (.slice A5 (m + 1) c5) = T := ⟨_, rfl⟩; obtain ⟨W9, hW9⟩ : ∃ V, V5.setCell ⟨b1, 3, none⟩ (.slice A5 (m + 1) c5) = V := ⟨_, rfl⟩; have f9 : V5.frozen? ⟨b1, 3, none⟩ = false := HR5.out.frozen 3; have rt9 : W9.heap[b1]? = some (.cells T9 31 (0, 0)) := (by rw [← hW9, ← hT9]; exact HR5.out.set 3 _); have k79 : Keeps (fun j => B ≤ j ∨ j = b1) W7 W9 := (HK5.out.mono (fun _ _ h => Or.inl h)).trans (by rw [← hW9]; exact (Keeps.refl (fun j => B ≤ j ∨ j = b1) V5).setCell (p := ⟨b1, 3, none⟩) (fun _ => Or.inr rfl) _); have r49 : W9.heap[b4]? = some (.cells Z 31 (0, 0)) := ((k79.block b4 (by have := HBE.out; omega) (by have := HBE.out; omega)).trans (K47.out.block b4 (by have := HBO.out; omega) id)).trans HR4.out; obtain ⟨W10, hW10⟩ : ∃ V, W9.setRow b4 T9 = V := ⟨_, rfl⟩; have R10 : Hid (W10.heap[b4]? = some (.cells T9 31 (0, 0))) := Lib.hid (by rw [← hW10]; exact setRow_heap _ _ _ _ _ _ r49); have K10 : Hid (Keeps (fun _ => False) w W10) := Lib.hid ((((K4.out.trans K47.out).trans' k79 (fun j hj e => by have := HBE.out; omega))).trans' (T := fun j => j = b4) (by rw [← hW10]; exact Keeps.setRow _ _) (fun j hj e => by have := HBE.out; omega)); have HO10 : Hid (W10.ownsRow B0 71 68 (.slice A5 (m + 1) c5) ((m + 1)) (qfl (Ft.ins q0 l))) := Lib.hid (by have k1 : Keeps (fun j => j = b1 ∨ j = b4) V5 W10 := ((by rw [← hW9]; exact (Keeps.refl (fun j => j = b1 ∨ j = b4) V5).setCell (p := ⟨b1, 3, none⟩) (fun _ => Or.inl rfl) _) : Keeps (fun j => j = b1 ∨ j = b4) V5 W9).trans (by rw [← hW10]; exact (Keeps.setRow b4 T9).mono (fun _ _ h => Or.inr h));   exact own_base (k1.owns HO9.out (fun b hb e => by obtain ⟨_, _, h⟩ := own_block HO9.out b hb; have := HBE.out; omega)) (by have := HB0.out; have := HBE.out; omega)); have HO11 : Hid (W10.ownsRow w.heap.size 71 68 (.slice A5 (m + 1) c5) ((m + 1)) (qfl (Ft.ins q0 l))) := Lib.hid (by have k1 : Keeps (fun j => j = b1 ∨ j = b4) V5 W10 := ((by rw [← hW9]; exact (Keeps.refl (fun j => j = b1 ∨ j = b4) V5).setCell (p := ⟨b1, 3, none⟩) (fun _ => Or.inl rfl) _) : Keeps (fun j => j = b1 ∨ j = b4) V5 W9).trans (by rw [← hW10]; exact (Keeps.setRow b4 T9).mono (fun _ _ h => Or.inr h));   exact own_base (k1.owns HO9.out (fun b hb e => by obtain ⟨_, _, h⟩ := own_block HO9.out b hb; have := HBE.out; omega)) (by have := HBE.out; omega)); have S9 : Hid ((Try.prog.info? 31).map (·.size) = some T9.size) := Lib.hid (by rw [← hT9]; exact size_T); have SZ9 : Hid (Z.size = T9.size) := Lib.hid (by have h1 := SZ.out; have h2 := S9.out; rw [h1] at h2; injection h2); have O9 : Hid (T9.all (·.oneCell') = true) := Lib.hid (by rw [← hT9]; exact tcs_one _ _ _ _ _ _); have RT9 := Lib.hid rt9; have R49 := Lib.hid r49; have HT9 := Lib.hid hT9; have HLEN := Lib.hid hm5; clear rt9 k79 r49 hT9 hm5)
            | (refine wpList_load_row (by rfl) 31 _ (by rfl) b1 (by rfl) 31 T9 (0, 0) _ RT9.out Try.underlying31 rfl S9.out ?_)
            | (refine wpList_store_row (by rfl) 31 _ _ (by rfl) b4 T9 (by rfl) (by rfl) 31 Z R49.out S9.out SZ9.out O9.out ?_; rw [hW10])
            | fail)
          refine bodyPost_ret (results_cell_tmp18 rfl _ _ b4 31 T9 (0, 0) _ rfl R10.out Try.underlying31 rfl S9.out) rfl ?_
          refine ⟨A5, c5, ?_, K10.out, ?_, fun b hb => .inr (by rw [HST.out, ← HLEN.out] at hb; obtain ⟨_, _, h⟩ := own_block HO11.out b hb; exact h)⟩
          · rw [HST.out, ← HLEN.out, HT9.out]; rfl
          · rw [HST.out, ← HLEN.out]; exact HO10.out
end Go.Proofs.Ythnpgiagajfaiaa
